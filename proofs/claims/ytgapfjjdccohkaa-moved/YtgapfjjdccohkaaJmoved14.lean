import Derived.Test.YtgapfjjdccohkaaJmoved12
import Derived.Test.YtgapfjjdccohkaaJmoved13
import Derived.Test.YtgapfjjdccohkaaJmoved09
import Derived.Deep.QuietTactic
import Derived.BigQuiet
import Derived.Deep.RegionHeld3

/- outlinekeep: moved. -/
namespace Go.Proofs.Ytgapfjjdccohkaa
open Go.RowKit

/-- The pixel number k of the moved bitmap. -/
def pxl (bl : Int → Int → Bool) (W' : Nat) (dx dy : Int) (k : Nat) : UInt8 := if bl (((k % W' : Nat) : Int) - dx) (((k / W' : Nat) : Int) - dy) = true then 49 else 48
def pxls (bl : Int → Int → Bool) (W' : Nat) (dx dy : Int) (n : Nat) : List UInt8 := (List.range n).map (pxl bl W' dx dy)
theorem pxls_succ (bl : Int → Int → Bool) (W' : Nat) (dx dy : Int) (n : Nat) : pxls bl W' dx dy (n + 1) = pxls bl W' dx dy n ++ [pxl bl W' dx dy n] := by simp [pxls, List.range_succ]
theorem pxls_len (bl : Int → Int → Bool) (W' : Nat) (dx dy : Int) (n : Nat) : (pxls bl W' dx dy n).length = n := by simp [pxls]
theorem pxl_ok (bl : Int → Int → Bool) (W' : Nat) (dx dy : Int) (k : Nat) : Pm.okPix (pxl bl W' dx dy k) = true := by
  unfold pxl; split <;> rfl
theorem pxls_ok (bl : Int → Int → Bool) (W' : Nat) (dx dy : Int) (n : Nat) : (pxls bl W' dx dy n).all Pm.okPix = true := by
  rw [List.all_eq_true]
  intro u hu
  obtain ⟨k, _, rfl⟩ := List.mem_map.1 hu
  exact pxl_ok bl W' dx dy k
theorem pxl_at (bl : Int → Int → Bool) (W' : Nat) (dx dy : Int) (y x : Nat) (hx : x < W') : pxl bl W' dx dy (y * W' + x) = if bl ((x : Int) - dx) ((y : Int) - dy) = true then 49 else 48 := by
  unfold pxl
  rw [Nat.mul_comm, Nat.mul_add_mod, Nat.mod_eq_of_lt hx, Nat.mul_add_div (by omega), Nat.div_eq_of_lt hx, Nat.add_zero]
theorem bit_pxls (bl : Int → Int → Bool) (W' : Nat) (dx dy : Int) (n k : Nat) (hk : k < n) : Pm.bitAt (pxls bl W' dx dy n) k = decide (pxl bl W' dx dy k = 49) := by
  unfold Pm.bitAt pxls
  rw [List.getElem?_map, List.getElem?_range hk]
  simp only [Option.map_some]
  by_cases h : pxl bl W' dx dy k = 49
  · rw [h]; rfl
  · rw [decide_eq_false h]; simpa using h
theorem pxls_mvd (W H : Nat) (l : List UInt8) (dx dy : Nat) : Qm.Mvd dx dy (Pm.blackB W H l) (Pm.blackB (W + dx) (H + dy) (pxls (Pm.blackB W H l) (W + dx) dx dy ((W + dx) * (H + dy)))) := by
  intro x y
  by_cases h : 0 ≤ x + dx ∧ 0 ≤ y + dy ∧ x + dx < ((W + dx : Nat) : Int) ∧ y + dy < ((H + dy : Nat) : Int)
  · obtain ⟨X, hX⟩ : ∃ X : Nat, x + dx = X := ⟨(x + dx).toNat, by omega⟩
    obtain ⟨Y, hY⟩ : ∃ Y : Nat, y + dy = Y := ⟨(y + dy).toNat, by omega⟩
    rw [hX, hY, Pm.blackB_in _ _ _ X Y (by omega) (by omega) (Y * (W + dx)) rfl]
    have hk : Y * (W + dx) + X < (W + dx) * (H + dy) := by
      have : (Y + 1) * (W + dx) ≤ (H + dy) * (W + dx) := Nat.mul_le_mul_right _ (by omega)
      rw [Nat.add_mul, Nat.one_mul, Nat.mul_comm (H + dy)] at this
      omega
    rw [bit_pxls _ _ _ _ _ _ hk, pxl_at _ _ _ _ _ _ (by omega), show (X : Int) - dx = x from by omega, show (Y : Int) - dy = y from by omega]
    cases Pm.blackB W H l x y <;> rfl
  · rw [Pm.blackB_out _ _ _ _ _ h]
    cases e : Pm.blackB W H l x y with
    | false => rfl
    | true =>
      exfalso
      have := fun hn => Pm.blackB_out W H l x y hn
      by_cases hi : 0 ≤ x ∧ 0 ≤ y ∧ x < W ∧ y < H
      · omega
      · rw [this hi] at e; simp at e

set_option maxRecDepth 4000 in
set_option maxHeartbeats 2000000 in
theorem moved_any (W H : Nat) (s : ByteArray) (dx dy : Nat) (w : World) (W1 : 1 ≤ W) (W2 : W ≤ 16) (H1 : 1 ≤ H) (H2 : H ≤ 16) (hl : s.size = W * H) (x2 : dx ≤ 16) (y2 : dy ≤ 16) :
    Calls Try.prog 30 #[.agg #[.int .i64 W, .int .i64 H, .string s], .int .i64 dx, .int .i64 dy] w fun e w' => (∃ l : List UInt8, e = .returned (.agg #[.int .i64 ((W + dx : Nat) : Int), .int .i64 ((H + dy : Nat) : Int), .string ⟨l.toArray⟩]) ∧ l.length = (W + dx) * (H + dy) ∧ l.all Pm.okPix = true ∧ Qm.Mvd dx dy (Pm.blackB W H s.data.toList) (Pm.blackB (W + dx) (H + dy) l)) ∧ Below w.heap.size w w' := by
  obtain ⟨i0, hi, hz0, hz1, hz2⟩ := info_parts infoByte
  have KB := hid (fun x y W' => keepBlack_any W H s x y W' (by omega) (by omega) hl)
  obtain ⟨bl, hbl⟩ : ∃ bl, bl = Pm.blackB W H s.data.toList := ⟨_, rfl⟩
  have MV := hid (show Qm.Mvd dx dy bl (Pm.blackB (W + dx) (H + dy) (pxls bl (W + dx) dx dy ((W + dx) * (H + dy)))) by rw [hbl]; exact pxls_mvd W H s.data.toList dx dy)
  rw [← hbl] at KB ⊢
  obtain ⟨V, hV⟩ : ∃ V, V = W + dx := ⟨_, rfl⟩
  obtain ⟨U, hU⟩ : ∃ U, U = H + dy := ⟨_, rfl⟩
  have eV : (W : Int) + (dx : Int) = (V : Nat) := by omega
  have eU : (H : Int) + (dy : Int) = (U : Nat) := by omega
  have V1 : 1 ≤ V ∧ V ≤ 32 := by omega
  have U1 : 1 ≤ U ∧ U ≤ 32 := by omega
  have PA := hid (fun y x (h : x < V) => pxl_at bl V dx dy y x h)
  rw [← hV, ← hU] at MV ⊢
  clear hbl hV hU hl
  go_enter Try.func30, Try.ntmps30
  go_wp2_with fail
  obtain ⟨X, hX⟩ : ∃ X, X = ((w.alloc (.cells #[.int .i64 W, .int .i64 H, .string s] 23)).alloc (.cells #[.int .i64 0, .int .i64 0, .string ⟨#[]⟩] 23)).alloc (.cells #[.int .i64 V, .int .i64 U, .string ⟨#[]⟩] 23) := ⟨_, rfl⟩
  have Xs : X.heap.size = w.heap.size + 3 := by rw [hX]; simp
  have Xb : Below w.heap.size w X := by rw [hX]; exact (((Below.refl _ _).alloc (Nat.le_refl _) _).alloc (by simp) _).alloc (by simp; omega) _
  have Y0 := ((Box3.new w (.int .i64 W) (.int .i64 H) (.string s) 23).alloc (.cells #[.int .i64 0, .int .i64 0, .string ⟨#[]⟩] 23)).alloc (.cells #[.int .i64 V, .int .i64 U, .string ⟨#[]⟩] 23)
  have Y1 := (Box3.new (w.alloc (.cells #[.int .i64 W, .int .i64 H, .string s] 23)) (.int .i64 0) (.int .i64 0) (.string ⟨#[]⟩) 23).alloc (.cells #[.int .i64 V, .int .i64 U, .string ⟨#[]⟩] 23)
  have Y2 := Box3.new ((w.alloc (.cells #[.int .i64 W, .int .i64 H, .string s] 23)).alloc (.cells #[.int .i64 0, .int .i64 0, .string ⟨#[]⟩] 23)) (.int .i64 V) (.int .i64 U) (.string ⟨#[]⟩) 23
  rw [← hX] at Y0 Y1 Y2
  rw [← hX]
  have XS := hid Xs
  have XB := hid Xb
  have Y0H := hid Y0
  have Y1H := hid Y1
  have Y2H := hid Y2
  clear hX Xs Xb Y0 Y1 Y2
  go_loopw [8, 9] (fun v yv wr => ∃ y : Nat, y ≤ U ∧ yv = .int .i64 y ∧ Hid (wr.ownsRow (w.heap.size + 3) 5 1 v (y * V) (cellsOf (pxls bl V dx dy (y * V)))) ∧ Hid (Below (w.heap.size + 3) X wr)) (fun _ i _ => U - (intOf i).toNat)
  case atStart => exact ⟨0, by omega, rfl, by rw [Nat.zero_mul]; exact World.ownsRow_nil _ _ _ _, Below.refl _ _⟩
  case round =>
    obtain ⟨y, hy, rfl, hO, hB⟩ := hrel
    have hnx := hid (hB.out.mono (B' := X.heap.size) (by rw [XS.out]; omega))
    obtain ⟨⟨z0, z1, z2⟩, ⟨j0, j1, j2⟩, -, zz⟩ := Y2H.out.on hnx.out
    simp at z0 z1 z2 j0 j1 j2 zz
    by_cases hlt : y < U
    · go_wp2_with fail
      clear z0 z1 z2 j0 j1 j2 zz
      have vy : (y + 1) * V = y * V + V := by rw [Nat.add_mul, Nat.one_mul]
      have vb : y * V + V ≤ 1024 := by rw [← vy]; exact Nat.mul_le_mul (show y + 1 ≤ 32 by omega) V1.2
      have VY := hid vy
      obtain ⟨q, hq⟩ : ∃ q, q = y * V := ⟨_, rfl⟩
      rw [← hq] at vb VY hO
      have HQ := hid hq
      clear vy hq
      go_loopw [8, 10] (fun v xv wr => ∃ x : Nat, x ≤ V ∧ xv = .int .i64 x ∧ Hid (wr.ownsRow (w.heap.size + 3) 5 1 v (q + x) (cellsOf (pxls bl V dx dy (q + x)))) ∧ Hid (Below (w.heap.size + 3) X wr)) (fun _ i _ => V - (intOf i).toNat)
      case atStart => exact ⟨0, by omega, rfl, hO, hB⟩
      case round =>
        clear hO hB hnx
        obtain ⟨x, hx, rfl, hO, hB⟩ := hrel
        have hnx := hid (hB.out.mono (B' := X.heap.size) (by rw [XS.out]; omega))
        have hsz : w.heap.size + 3 ≤ wr.heap.size := by have := hB.out.size; have := XS.out; omega
        obtain ⟨⟨a0, a1, a2⟩, -, -, az⟩ := Y0H.out.on hnx.out
        obtain ⟨⟨z0, z1, z2⟩, -, -, zz⟩ := Y2H.out.on hnx.out
        simp at z0 z1 z2 zz
        by_cases hlx : x < V
        · have PX := hid (show pxl bl V dx dy (q + x) = if bl ((x : Int) - dx) ((y : Int) - dy) = true then 49 else 48 by rw [HQ.out]; exact PA.out y x hlx)
          have PSU := hid (pxls_succ bl V dx dy (q + x))
          have KX := hid (KB.out ((x : Int) - dx) ((y : Int) - dy) wr)
          obtain ⟨t, ht⟩ : ∃ t, t = bl ((x : Int) - dx) ((y : Int) - dy) := ⟨_, rfl⟩
          rw [← ht] at PX KX
          clear ht
          go_wp2_with fail
          refine KX.out.mono ?_
          rintro e w3 ⟨rfl, e3⟩
          have B3 := hid (show Below (w.heap.size + 3) X w3 by rw [e3]; exact hB.out.alloc hsz _)
          have O3 := hid (show w3.ownsRow (w.heap.size + 3) 5 1 _ (q + x) (cellsOf (pxls bl V dx dy (q + x))) by rw [e3]; exact hO.out.alloc _)
          have z3 : w.heap.size + 3 ≤ w3.heap.size := by rw [e3]; simp; omega
          have m1 : q + x + 1 ≤ maxLen := by unfold maxLen; omega
          have m2 : (q + x + 1) * 1 ≤ 140737488355328 := by omega
          clear e3 a0 a1 a2 az z0 z1 z2 zz
          cases t
          · have PX0 := hid (show pxl bl V dx dy (q + x) = 48 by rw [PX.out]; rfl)
            go_wp2_with (first
              | (at_builtin; refine wpList_append_own _ rfl _ _ 72 rfl (w.heap.size + 3) 5 i0 (.int .u8 0) 1 1 Try.underlying72 hi hz0 hz1 hz2 rfl (by decide) _ _ _ rfl (O3.out.alloc _) ⟨_, 0, none⟩ 1 1 [.int .u8 48] rfl rfl (cell_one_new _ _ _) (by intro u hu; simp at hu; subst hu; rfl) m1 m2 (by simp; omega) ?_))
            intro v' w5 hown' hgrow _
            have B5 := hid (show Below (w.heap.size + 3) X w5 from (B3.out.alloc (by omega) _).grown hgrow (by simp; omega) (fun k hk => (O3.out.lt k hk).1))
            have O5 := hid (show w5.ownsRow (w.heap.size + 3) 5 1 v' (q + (x + 1)) (cellsOf (pxls bl V dx dy (q + (x + 1)))) by rw [← Nat.add_assoc, PSU.out, PX0.out, cellsOf_snoc]; exact hown')
            clear hown' hgrow
            go_wp2
            go_roundw
            case rel => exact ⟨x + 1, by omega, by go_num, O5, B5⟩
            case measure => simp [intOf]; omega
          · have PX0 := hid (show pxl bl V dx dy (q + x) = 49 by rw [PX.out]; rfl)
            go_wp2_with (first
              | (at_builtin; refine wpList_append_own _ rfl _ _ 72 rfl (w.heap.size + 3) 5 i0 (.int .u8 0) 1 1 Try.underlying72 hi hz0 hz1 hz2 rfl (by decide) _ _ _ rfl (O3.out.alloc _) ⟨_, 0, none⟩ 1 1 [.int .u8 49] rfl rfl (cell_one_new _ _ _) (by intro u hu; simp at hu; subst hu; rfl) m1 m2 (by simp; omega) ?_))
            intro v' w5 hown' hgrow _
            have B5 := hid (show Below (w.heap.size + 3) X w5 from (B3.out.alloc (by omega) _).grown hgrow (by simp; omega) (fun k hk => (O3.out.lt k hk).1))
            have O5 := hid (show w5.ownsRow (w.heap.size + 3) 5 1 v' (q + (x + 1)) (cellsOf (pxls bl V dx dy (q + (x + 1)))) by rw [← Nat.add_assoc, PSU.out, PX0.out, cellsOf_snoc]; exact hown')
            clear hown' hgrow
            go_wp2
            go_roundw
            case rel => exact ⟨x + 1, by omega, by go_num, O5, B5⟩
            case measure => simp [intOf]; omega
        · have ex : x = V := by omega
          have O5 := hid (show wr.ownsRow (w.heap.size + 3) 5 1 _ ((y + 1) * V) (cellsOf (pxls bl V dx dy ((y + 1) * V))) by rw [VY.out]; rw [ex] at hO; exact hO.out)
          have hlx' : ¬ (x : Int) < (V : Nat) := by omega
          go_wp2
          go_roundw
          case rel => exact ⟨y + 1, by omega, by go_num, O5, hB⟩
          case measure => simp [intOf]; omega
    · have ey : y = U := by omega
      subst ey
      have hly : ¬ (y : Int) < (y : Nat) := by omega
      obtain ⟨l, hl⟩ : ∃ l, l = pxls bl V dx dy (y * V) := ⟨_, rfl⟩
      have LL := hid (show l.length = y * V by rw [hl, pxls_len])
      have LO := hid (show l.all Pm.okPix = true by rw [hl]; exact pxls_ok _ _ _ _ _)
      have LM := hid (show Qm.Mvd dx dy bl (Pm.blackB V y l) by rw [hl, Nat.mul_comm]; exact MV.out)
      rw [← hl] at hO
      have vp : 0 < y * V := Nat.mul_pos (by omega) (by omega)
      rw [← LL.out] at hO vp
      have hown := hO.out
      obtain ⟨⟨b0, b1, b2⟩, ⟨g0, g1, g2⟩, -, bz⟩ := Y1H.out.on hnx.out
      simp at b0 b1 b2 g0 g1 g2 bz
      have BW := hid (show Below w.heap.size w wr from XB.out.trans (hB.out.mono (by omega)))
      have LC := hid (Nat.mul_comm y V)
      rcases hown.2 with ⟨-, h0⟩ | ⟨g, cap, cur, rfl, -, -, -, -, -, -⟩
      · omega
      · have hcv := run_convert_bytes_back (P := Try.prog) wr 72 9 5 ⟨g, 0, none⟩ cap l Try.underlying72 Try.underlying5 Try.underlying9 (fun j hj => hown.cells (g := g) rfl j _ (by simp [cellsOf, hj]))
        clear hl hown hO
        go_wp2
        refine bodyPost_ret (v := .agg #[.int .i64 V, .int .i64 y, .string ⟨l.toArray⟩]) (by simp [results, Try.results30, go_sem, World.cell?_setCell_other, World.cell?_setCell_same', *]) rfl ?_
        exact ⟨⟨l, rfl, by rw [LL.out, LC.out], List.all_eq_true.1 LO.out, LM.out⟩, by go_grown; exact BW.out⟩
end Go.Proofs.Ytgapfjjdccohkaa

/- outlineref: Above. -/
namespace Go.Proofs.Ytgapfjjdccohkaa
open Go.RowKit

namespace Qm
/-- What Above answers. -/
def abV (p q : Pt) (x y : Int) : Int := if thR p q x y = true then 0 else abZ p q x y
theorem abV_in (p q : Pt) (x y : Int) : -1 ≤ abV p q x y ∧ abV p q x y ≤ 1 := by
  unfold abV abZ; repeat' split <;> try omega
theorem mid_in {p q : Pt} {x y : Int} (hp : 0 ≤ p.1 ∧ p.1 ≤ 32 ∧ 0 ≤ p.2 ∧ p.2 ≤ 32) (hq : 0 ≤ q.1 ∧ q.1 ≤ 32 ∧ 0 ≤ q.2 ∧ q.2 ≤ 32) (x0 : -32 ≤ x) (x1 : x ≤ 64) (y0 : -32 ≤ y) (y1 : y ≤ 64) {a b : Int} (ha : a = 2 * (p.1 - x) - 1 ∨ a = 2 * (p.2 - y) - 1) (hb : b = 2 * (q.1 - x) - 1 ∨ b = 2 * (q.2 - y) - 1) : -40000 ≤ a * b ∧ a * b ≤ 40000 := by
  have m : ∀ {a b : Int}, -200 ≤ a → a ≤ 200 → -200 ≤ b → b ≤ 200 → -40000 ≤ a * b ∧ a * b ≤ 40000 := by
    intro a b a0 a1 b0 b1
    have p : ∀ {u v : Int}, 0 ≤ u → u ≤ 200 → 0 ≤ v → v ≤ 200 → 0 ≤ u * v ∧ u * v ≤ 40000 := fun a b c d => ⟨Int.mul_nonneg a c, Int.mul_le_mul b d c (by omega)⟩
    rcases Int.le_total 0 a with ha | ha <;> rcases Int.le_total 0 b with hb | hb
    · have := p ha a1 hb b1; omega
    · have := p ha a1 (show 0 ≤ -b by omega) (by omega); rw [Int.mul_neg] at this; omega
    · have := p (show 0 ≤ -a by omega) (by omega) hb b1; rw [Int.neg_mul] at this; omega
    · have := p (show 0 ≤ -a by omega) (by omega) (show 0 ≤ -b by omega) (by omega); rw [Int.neg_mul_neg] at this; omega
  exact m (by omega) (by omega) (by omega) (by omega)
end Qm

set_option maxHeartbeats 1000000 in
theorem above_any (p q : Int × Int) (x y : Int) (hp : PtIn p) (hq : PtIn q) (x0 : -32 ≤ x) (x1 : x ≤ 64) (y0 : -32 ≤ y) (y1 : y ≤ 64) (w : World) :
    Calls Try.prog 89 #[.agg #[.int .i64 p.1, .int .i64 p.2], .agg #[.int .i64 q.1, .int .i64 q.2], .int .i64 x, .int .i64 y] w fun e w' => e = .returned (.tuple #[.int .i64 (Qm.abV p q x y), .bool (!Qm.thR p q x y)]) ∧ Below w.heap.size w w' := by
  have m1 := Qm.mid_in hp hq x0 x1 y0 y1 (.inl rfl) (.inr rfl)
  have m2 := Qm.mid_in hp hq x0 x1 y0 y1 (.inr rfl) (.inl rfl)
  have m3 := Qm.mid_in hp hq x0 x1 y0 y1 (.inl rfl) (.inl rfl)
  have m4 := Qm.mid_in hp hq x0 x1 y0 y1 (.inr rfl) (.inr rfl)
  have T := hid (Qm.thR_iff p q x y)
  have E := hid (show Qm.abV p q x y = if Qm.thR p q x y = true then 0 else if 2 * (p.1 - x) - 1 < 0 ∧ 0 < 2 * (q.1 - x) - 1 ∧ 0 < Qm.crZ p q x y then -1 else if 0 < 2 * (p.1 - x) - 1 ∧ 2 * (q.1 - x) - 1 < 0 ∧ Qm.crZ p q x y < 0 then 1 else 0 from rfl)
  have C := hid (show Qm.crZ p q x y = (2 * (p.1 - x) - 1) * (2 * (q.2 - y) - 1) - (2 * (p.2 - y) - 1) * (2 * (q.1 - x) - 1) from rfl)
  have D := hid (show Qm.dtZ p q x y = (2 * (p.1 - x) - 1) * (2 * (q.1 - x) - 1) + (2 * (p.2 - y) - 1) * (2 * (q.2 - y) - 1) from rfl)
  unfold PtIn at hp hq
  obtain ⟨px, py⟩ := p
  obtain ⟨qx, qy⟩ := q
  dsimp only at hp hq m1 m2 m3 m4 T E C D ⊢
  obtain ⟨u, hu⟩ : ∃ u, (2 * (px - x) - 1) * (2 * (qy - y) - 1) = u := ⟨_, rfl⟩
  obtain ⟨v, hv⟩ : ∃ v, (2 * (py - y) - 1) * (2 * (qx - x) - 1) = v := ⟨_, rfl⟩
  obtain ⟨s, hs⟩ : ∃ s, (2 * (px - x) - 1) * (2 * (qx - x) - 1) = s := ⟨_, rfl⟩
  obtain ⟨t, ht⟩ : ∃ t, (2 * (py - y) - 1) * (2 * (qy - y) - 1) = t := ⟨_, rfl⟩
  rw [hu] at m1 C
  rw [hv] at m2 C
  rw [hs] at m3 D
  rw [ht] at m4 D
  rw [C.out] at T E
  rw [D.out] at T
  clear C D
  obtain ⟨r, hr⟩ : ∃ r, Qm.thR (px, py) (qx, qy) x y = r := ⟨_, rfl⟩
  rw [hr] at T E ⊢
  obtain ⟨z, hz⟩ : ∃ z, Qm.abV (px, py) (qx, qy) x y = z := ⟨_, rfl⟩
  rw [hz] at E ⊢
  clear hr hz
  by_cases h1 : u - v = 0
  · have b1 : (u - v == 0) = true := by simpa using h1
    by_cases h2 : s + t ≤ 0
    · have h2b : decide (s + t ≤ 0) = true := by simpa using h2
      have R := hid (show r = true from T.out.2 ⟨h1, h2⟩)
      have Z := hid (show z = 0 by rw [E.out, if_pos R.out])
      clear h1
      go_enter Try.func89, Try.ntmps89
      go_wp2
      go_ret2
      exact ⟨by rw [Z.out, R.out]; rfl, by go_grown⟩
    · have h2b : decide (s + t ≤ 0) = false := by simpa using h2
      have R := hid (show r = false by cases hr : r with | false => rfl | true => exact absurd (T.out.1 hr).2 h2)
      have Z := hid (show z = 0 by rw [E.out, if_neg (by rw [R.out]; simp), if_neg (by omega), if_neg (by omega)])
      have c1 : ¬ 0 < u - v := by omega
      have c2 : ¬ u - v < 0 := by omega
      clear h1
      go_enter Try.func89, Try.ntmps89
      go_wp2
      all_goals (
        go_ret2
        exact ⟨by rw [Z.out, R.out]; rfl, by go_grown⟩)
  · have b1 : (u - v == 0) = false := by simpa using h1
    have R := hid (show r = false by cases hr : r with | false => rfl | true => exact absurd (T.out.1 hr).1 h1)
    have Z := hid (show z = if 2 * (px - x) - 1 < 0 ∧ 0 < 2 * (qx - x) - 1 ∧ 0 < u - v then -1 else if 0 < 2 * (px - x) - 1 ∧ 2 * (qx - x) - 1 < 0 ∧ u - v < 0 then 1 else 0 by rw [E.out, if_neg (by rw [R.out]; simp)])
    cases g1 : decide (2 * (px - x) - 1 < 0) <;> cases g2 : decide (0 < 2 * (qx - x) - 1) <;> cases g3 : decide (0 < u - v)
    all_goals (
      have G1 := hid g1
      have G2 := hid g2
      have G3 := hid g3
      simp only [decide_eq_true_eq, decide_eq_false_iff_not] at g1 g2 g3
      have k1 : ¬ (2 * (px - x) - 1 = 0) := by omega
      have k2 : ¬ (2 * (qx - x) - 1 = 0) := by omega
      go_enter Try.func89, Try.ntmps89
      go_wp2
      all_goals (
        go_ret2
        refine ⟨?_, by go_grown⟩
        rw [Z.out, R.out]
        first
          | (rw [if_pos ⟨by omega, by omega, by omega⟩]; rfl)
          | (rw [if_neg (by omega), if_pos ⟨by omega, by omega, by omega⟩]; rfl)
          | (rw [if_neg (by omega), if_neg (by omega)]; rfl)))
end Go.Proofs.Ytgapfjjdccohkaa

/- outlineref: Clean, Fits. -/
namespace Go.Proofs.Ytgapfjjdccohkaa
open Go.RowKit

namespace Qm
/-- What Clean answers. -/
def clnB (l : List Pt) (x y : Int) : Bool := ((List.range l.length).all fun i => !thR (l.getD i (0, 0)) (nxP l i) x y) && decide (fsE (fun p q => abZ p q x y) l l.length = 0)
theorem clnB_iff (l : List Pt) (x y : Int) : clnB l x y = true ↔ cleanP l x y := by
  unfold clnB cleanP
  rw [Bool.and_eq_true, List.all_eq_true, decide_eq_true_eq]
  simp
theorem clnB_no {l : List Pt} {x y : Int} {i : Nat} (hi : i < l.length) (h : thR (l.getD i (0, 0)) (nxP l i) x y = true) : clnB l x y = false := by
  cases e : clnB l x y with
  | false => rfl
  | true => rw [((clnB_iff l x y).1 e).1 i hi] at h; simp at h
theorem clnB_end {l : List Pt} {x y : Int} (h : ∀ i, i < l.length → thR (l.getD i (0, 0)) (nxP l i) x y = false) : clnB l x y = (fsE (fun p q => abZ p q x y) l l.length == 0) := by
  have e : ((List.range l.length).all fun i => !thR (l.getD i (0, 0)) (nxP l i) x y) = true := by rw [List.all_eq_true]; intro i hi; rw [h i (List.mem_range.1 hi)]; rfl
  unfold clnB; rw [e]; rfl
theorem abZ_in (p q : Pt) (x y : Int) : -1 ≤ abZ p q x y ∧ abZ p q x y ≤ 1 := by
  unfold abZ; repeat' split <;> try omega
theorem fsE_ab_in (l : List Pt) (x y : Int) (k : Nat) : -(k : Int) ≤ fsE (fun p q => abZ p q x y) l k ∧ fsE (fun p q => abZ p q x y) l k ≤ k := by
  induction k with
  | zero => simp [fsE]
  | succ k ih => have := abZ_in (l.getD k (0, 0)) (nxP l k) x y; simp only [fsE]; omega
end Qm

set_option maxRecDepth 4000 in
set_option maxHeartbeats 1000000 in
theorem clean_any (g o n cap : Nat) (l : List (Int × Int)) (hn : n = l.length) (h0 : 0 < n) (hs : Qm.Small l) (hn2 : n ≤ 4357) (x y : Int) (x0 : -32 ≤ x) (x1 : x ≤ 64) (y0 : -32 ≤ y) (y1 : y ≤ 64) (w : World) (hP : PtsO g o l w) :
    Calls Try.prog 81 #[.slice (some ⟨g, o, none⟩) n cap, .int .i64 x, .int .i64 y] w fun e w' => e = .returned (.bool (Qm.clnB l x y)) ∧ Below w.heap.size w w' := by
  have HP := hid hP
  have hg := hP.1
  have HN := hid hn
  have e0 : ((n : Int) == 0) = false := by simp; omega
  clear hP hn
  go_enter Try.func81, Try.ntmps81
  go_wp2
  go_loopw [7, 8] (fun sm i wr => ∃ k : Nat, k ≤ n ∧ i = .int .i64 k ∧ sm = .int .i64 (Qm.fsE (fun p q => Qm.abZ p q x y) l k) ∧ (∀ i, i < k → Qm.thR (l.getD i (0, 0)) (Qm.nxP l i) x y = false) ∧ Below w.heap.size w wr) (fun _ i _ => n - (intOf i).toNat)
  case atStart => exact ⟨0, by omega, rfl, rfl, fun _ h => by omega, Below.refl _ _⟩
  case round =>
    obtain ⟨k, hk, rfl, rfl, hth, hb⟩ := hrel
    have HB := hid hb
    have TH := hid hth
    have ts := Qm.fsE_ab_in l x y k
    clear hth
    by_cases hlt : k < n
    · obtain ⟨r, hr⟩ : ∃ r, r = (k + 1) % n := ⟨_, rfl⟩
      have hrn : r < n := by rw [hr]; exact Nat.mod_lt _ h0
      have er : ((k : Int) + 1) % (n : Int) = (r : Nat) := by rw [hr]; simp
      obtain ⟨r0, r1⟩ := (HP.out.on hb hg).2 k (by have := HN.out; omega)
      obtain ⟨q0, q1⟩ := (HP.out.on hb hg).2 r (by have := HN.out; omega)
      have NX := hid (show Qm.nxP l k = l.getD r (0, 0) by rw [hr, HN.out]; rfl)
      have AB := hid (fun W' => above_any (l.getD k (0, 0)) (l.getD r (0, 0)) x y (small_in hs _) (small_in hs _) x0 x1 y0 y1 W')
      have E2 : Hid (Qm.fsE (fun p q => Qm.abZ p q x y) l (k + 1) = Qm.fsE (fun p q => Qm.abZ p q x y) l k + Qm.abZ (l.getD k (0, 0)) (Qm.nxP l k) x y) := rfl
      have ai := Qm.abZ_in (l.getD k (0, 0)) (Qm.nxP l k) x y
      have AV := hid (show Qm.abV (l.getD k (0, 0)) (l.getD r (0, 0)) x y = if Qm.thR (l.getD k (0, 0)) (l.getD r (0, 0)) x y = true then 0 else Qm.abZ (l.getD k (0, 0)) (l.getD r (0, 0)) x y from rfl)
      have NO := hid (fun h => Qm.clnB_no (l := l) (x := x) (y := y) (i := k) (by rw [← HN.out]; exact hlt) h)
      have TN := hid (show Qm.thR (l.getD k (0, 0)) (Qm.nxP l k) x y = false → ∀ i, i < k + 1 → Qm.thR (l.getD i (0, 0)) (Qm.nxP l i) x y = false from fun h i hi => by
        rcases Nat.lt_or_ge i k with h1 | h1
        · exact TH.out i h1
        · obtain rfl : i = k := by omega
          exact h)
      rw [NX.out] at E2 ai NO TN
      obtain ⟨t, ht⟩ : ∃ t, Qm.thR (l.getD k (0, 0)) (l.getD r (0, 0)) x y = t := ⟨_, rfl⟩
      rw [ht] at AB AV NO TN
      obtain ⟨z, hz⟩ : ∃ z, Qm.abZ (l.getD k (0, 0)) (l.getD r (0, 0)) x y = z := ⟨_, rfl⟩
      rw [hz] at E2 AV ai
      obtain ⟨av, hav⟩ : ∃ av, Qm.abV (l.getD k (0, 0)) (l.getD r (0, 0)) x y = av := ⟨_, rfl⟩
      rw [hav] at AB AV
      obtain ⟨⟨pa, pb⟩, hpp⟩ : ∃ p, p = l.getD k (0, 0) := ⟨_, rfl⟩
      obtain ⟨⟨qa, qb⟩, hqq⟩ : ∃ p, p = l.getD r (0, 0) := ⟨_, rfl⟩
      rw [← hpp] at r0 r1 AB
      rw [← hqq] at q0 q1 AB
      dsimp only at r0 r1 q0 q1 AB
      have hz' := HB.out.size
      have b1 : (0 : Int) ≤ (r : Nat) := by omega
      have b2 : ((r : Nat) : Int) < (n : Nat) := by omega
      have b3 : (0 : Int) ≤ (k : Nat) + 1 := by omega
      have b4 : IntKind.i64.wrap ((k : Int) + 1) = (k : Int) + 1 := by rw [IntKind.wrap_i64]; omega
      have b5 : ((k : Int) + 1).tmod (n : Nat) = (r : Nat) := by rw [Int.tmod_eq_emod_of_nonneg b3]; exact er
      have b6 : ¬ (n : Int) = 0 := by omega
      have b8 : ¬ n = 0 := by omega
      have b9 : (n == 0) = false := by simp; omega
      have b7 : IntKind.i64.wrap ((r : Nat) : Int) = (r : Nat) := by rw [IntKind.wrap_i64]; omega
      have S0 := hid (show wr.drew.cell? ⟨g, o + k * 2, none⟩ = some (.int .i64 pa) ∧ wr.drew.cell? ⟨g, o + k * 2 + 1, none⟩ = some (.int .i64 pb) ∧ wr.drew.cell? ⟨g, o + r * 2, none⟩ = some (.int .i64 qa) ∧ wr.drew.cell? ⟨g, o + r * 2 + 1, none⟩ = some (.int .i64 qb) from ⟨r0, r1, q0, q1⟩)
      have HBD := hid (show Below w.heap.size w wr.drew from HB.out.trans ⟨rfl, rfl, rfl, Nat.le_refl _, fun _ _ => rfl⟩)
      have hgd : g < wr.drew.heap.size := by show g < wr.heap.size; omega
      clear hb hpp hqq hr ht hz hav
      go_wp2_with fail
      go_region_held3 (fun w' => w'.cell? ⟨g, o + k * 2, none⟩ = some (.int .i64 pa) ∧ w'.cell? ⟨g, o + k * 2 + 1, none⟩ = some (.int .i64 pb) ∧ w'.cell? ⟨g, o + r * 2, none⟩ = some (.int .i64 qa) ∧ w'.cell? ⟨g, o + r * 2 + 1, none⟩ = some (.int .i64 qb))
        (first | exact S0.out | exact (by assumption : _ ∧ _ ∧ _ ∧ _))
        (first | (go_at_call 89; refine (AB.out _).mono ?_; rintro e w2 ⟨rfl, hb2⟩; have hS2 : w2.cell? ⟨g, o + k * 2, none⟩ = some (.int .i64 pa) ∧ w2.cell? ⟨g, o + k * 2 + 1, none⟩ = some (.int .i64 pb) ∧ w2.cell? ⟨g, o + r * 2, none⟩ = some (.int .i64 qa) ∧ w2.cell? ⟨g, o + r * 2 + 1, none⟩ = some (.int .i64 qb) := ⟨(hb2.cell (p := ⟨g, o + k * 2, none⟩) hgd).trans S0.out.1, (hb2.cell (p := ⟨g, o + k * 2 + 1, none⟩) hgd).trans S0.out.2.1, (hb2.cell (p := ⟨g, o + r * 2, none⟩) hgd).trans S0.out.2.2.1, (hb2.cell (p := ⟨g, o + r * 2 + 1, none⟩) hgd).trans S0.out.2.2.2⟩; have B2 := hid (show Below w.heap.size w w2 from HBD.out.trans (hb2.mono HBD.out.size)); clear hb2))
      clear r0 r1 q0 q1 S0 hS2
      cases t
      · have AV2 := hid (show av = z by rw [AV.out, if_neg (by simp)])
        obtain rfl := AV2.out
        go_wp2
        go_roundw
        case rel => exact ⟨k + 1, by omega, by go_num, by rw [E2.out], TN.out (by trivial), B2.out⟩
        case measure => simp [intOf]; omega
      · go_wp2
        go_ret
        exact ⟨ret_bool (NO.out (by trivial)).symm, B2.out⟩
    · have ek : k = n := by omega
      subst ek
      have CE := hid (show Qm.clnB l x y = (Qm.fsE (fun p q => Qm.abZ p q x y) l k == 0) by rw [HN.out]; exact Qm.clnB_end fun i hi => TH.out i (by rw [HN.out]; exact hi))
      obtain ⟨v, hv⟩ : ∃ v, Qm.fsE (fun p q => Qm.abZ p q x y) l k = v := ⟨_, rfl⟩
      rw [hv] at CE ⊢
      go_wp2
      go_ret
      exact ⟨ret_bool CE.out.symm, HB.out⟩

set_option maxRecDepth 4000 in
set_option maxHeartbeats 1000000 in
theorem refFits_any (g o n cap : Nat) (l : List (Int × Int)) (hn : n = l.length) (h0 : 2 ≤ n) (hs : Qm.Small l) (hn2 : n ≤ 13) (hu : Qm.Unit l) (w : World) (hP : PtsO g o l w) :
    Calls Try.prog 72 #[.slice (some ⟨g, o, none⟩) n cap] w fun e w' => e = .returned (.bool (Qm.fitB l)) ∧ Below w.heap.size w w' := by
  have HP := hid hP
  have hg := hP.1
  have HN := hid hn
  have FR := hid (hu.fit_ref (by omega) (by omega))
  have F2 := hid (fun h => Qm.fit_two hu h)
  have CI := hid (Qm.clnB_iff l)
  have CL := hid (fun x y (a : -32 ≤ x) (b : x ≤ 64) (c : -32 ≤ y) (d : y ≤ 64) W' (h : PtsO g o l W') => clean_any g o n cap l hn (by omega) hs (by omega) x y a b c d W' h)
  obtain ⟨q0, q1⟩ := hP.2 0 (by omega)
  simp only [Nat.zero_mul, Nat.add_zero] at q0 q1
  have s0 := hs.at 0
  clear hP hn hs hu
  rcases Nat.eq_or_lt_of_le h0 with h2 | h2
  · have e2 : ((n : Int) == 2) = true := by simp; omega
    have FT := hid (show Qm.fitB l = true from F2.out (by rw [← HN.out]; omega))
    clear h2
    go_enter Try.func72, Try.ntmps72
    go_wp2
    go_ret
    exact ⟨ret_bool FT.out.symm, Below.refl _ _⟩
  · have e2 : ((n : Int) == 2) = false := by simp; omega
    have FF := hid (show ∀ x y, (l.getD 0 (0, 0)).1 - 13 ≤ x → x ≤ (l.getD 0 (0, 0)).1 + 13 → (l.getD 0 (0, 0)).2 - 13 ≤ y → y ≤ (l.getD 0 (0, 0)).2 + 13 → Qm.clnB l x y = false → Qm.fitB l = false from fun x y a b c d h => by
      cases e : Qm.fitB l with
      | false => rfl
      | true =>
        rcases FR.out.1 e with h3 | h3
        · rw [← HN.out] at h3; omega
        · rw [(CI.out x y).2 (h3 x y a b c d)] at h; simp at h)
    have FT := hid (show (∀ x y, (l.getD 0 (0, 0)).1 - 13 ≤ x → x ≤ (l.getD 0 (0, 0)).1 + 13 → (l.getD 0 (0, 0)).2 - 13 ≤ y → y ≤ (l.getD 0 (0, 0)).2 + 13 → Qm.clnB l x y = true) → Qm.fitB l = true from fun h => FR.out.2 (.inr fun x y a b c d => (CI.out x y).1 (h x y a b c d)))
    obtain ⟨⟨fa, fb⟩, hff⟩ : ∃ p, p = l.getD 0 (0, 0) := ⟨_, rfl⟩
    rw [← hff] at q0 q1 s0 FF FT
    dsimp only at q0 q1 s0 FF FT
    clear hff FR F2 CI
    go_enter Try.func72, Try.ntmps72
    go_wp2_with fail
    go_loopw [3] (fun yv wr => ∃ y : Int, yv = .int .i64 y ∧ fb - 13 ≤ y ∧ y ≤ fb + 14 ∧ (∀ x' y', fa - 13 ≤ x' → x' ≤ fa + 13 → fb - 13 ≤ y' → y' < y → Qm.clnB l x' y' = true) ∧ Below w.heap.size w wr) (fun y _ => (fb + 14 - intOf y).toNat)
    case atStart => exact ⟨fb - 13, rfl, by omega, by omega, fun _ _ _ _ _ _ => by omega, Below.refl _ _⟩
    case round =>
      obtain ⟨y, rfl, hy0, hy1, hok, hb⟩ := hrel
      have OKS := hid hok
      have HB := hid hb
      have r0 := (hb.cell (p := ⟨g, o, none⟩) hg).trans q0
      have r1 := (hb.cell (p := ⟨g, o + 1, none⟩) hg).trans q1
      clear hok hb
      by_cases hlt : y ≤ fb + 13
      · go_wp2_with fail
        clear r0 r1
        go_loopw [4] (fun xv wr => ∃ x : Int, xv = .int .i64 x ∧ fa - 13 ≤ x ∧ x ≤ fa + 14 ∧ (∀ x', fa - 13 ≤ x' → x' < x → Qm.clnB l x' y = true) ∧ Below w.heap.size w wr) (fun x _ => (fa + 14 - intOf x).toNat)
        case atStart => exact ⟨fa - 13, rfl, by omega, by omega, fun _ _ _ => by omega, HB.out⟩
        case round =>
          clear HB
          obtain ⟨x, rfl, hx0, hx1, hok, hb⟩ := hrel
          have OKX := hid hok
          have HB := hid hb
          have r0 := (hb.cell (p := ⟨g, o, none⟩) hg).trans q0
          have r1 := (hb.cell (p := ⟨g, o + 1, none⟩) hg).trans q1
          clear hok hb
          by_cases hlx : x ≤ fa + 13
          · have FX := hid (FF.out x y hx0 hlx hy0 hlt)
            have cl := CL.out x y (by omega) (by omega) (by omega) (by omega)
            obtain ⟨t, ht⟩ : ∃ t, Qm.clnB l x y = t := ⟨_, rfl⟩
            rw [ht] at cl FX
            have CLX := hid cl
            have HT := hid ht
            clear cl ht
            go_wp2_with fail
            refine (CLX.out _ (HP.out.on HB.out hg)).mono ?_
            rintro e w2 ⟨rfl, hb2⟩
            have B2 := hid (show Below w.heap.size w w2 from HB.out.trans (hb2.mono HB.out.size))
            clear hb2 r0 r1
            cases t
            · go_wp2
              go_ret
              exact ⟨ret_bool (FX.out (by trivial)).symm, B2.out⟩
            · go_wp2
              go_roundw
              case rel =>
                refine ⟨x + 1, by go_num, by omega, by omega, fun x' h1 h2 => ?_, B2.out⟩
                rcases Int.lt_or_le x' x with h3 | h3
                · exact OKX.out x' h1 h3
                · rw [show x' = x from by omega]; exact HT.out
              case measure => simp [intOf]; omega
          · go_wp2
            go_roundw
            case rel =>
              refine ⟨y + 1, by go_num, by omega, by omega, fun x' y' h1 h2 h3 h4 => ?_, HB.out⟩
              rcases Int.lt_or_le y' y with h5 | h5
              · exact OKS.out x' y' h1 h2 h3 h5
              · rw [show y' = y from by omega]; exact OKX.out x' h1 (by omega)
            case measure => simp [intOf]; omega
      · have FTT := hid (show Qm.fitB l = true from FT.out fun x y a b c d => OKS.out x y a b c (by omega))
        go_wp2
        go_ret
        exact ⟨ret_bool FTT.out.symm, HB.out⟩
end Go.Proofs.Ytgapfjjdccohkaa
