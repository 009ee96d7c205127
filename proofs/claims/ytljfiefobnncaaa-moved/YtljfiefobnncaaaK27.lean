import Derived.Test.YtljfiefobnncaaaK25
import Derived.Test.YtljfiefobnncaaaK26
import Derived.Test.YtljfiefobnncaaaK23
import Derived.Test.YtljfiefobnncaaaK21

/- outlinekeep: moved. -/
namespace Go.Proofs.Ytljfiefobnncaaa
open Go.RowKit

/-- The pixel number k of the moved bitmap. -/
def pxl (bl : Int → Int → Bool) (W' : Nat) (dx dy : Int) (k : Nat) : UInt8 := if bl (((k % W' : Nat) : Int) - dx) (((k / W' : Nat) : Int) - dy) = true then 49 else 48
def pxls (bl : Int → Int → Bool) (W' : Nat) (dx dy : Int) (n : Nat) : List UInt8 := (List.range n).map (pxl bl W' dx dy)
theorem pxls_succ (bl : Int → Int → Bool) (W' : Nat) (dx dy : Int) (n : Nat) : pxls bl W' dx dy (n + 1) = pxls bl W' dx dy n ++ [pxl bl W' dx dy n] := by simp [pxls, List.range_succ]
theorem pxls_len (bl : Int → Int → Bool) (W' : Nat) (dx dy : Int) (n : Nat) : (pxls bl W' dx dy n).length = n := by simp [pxls]
theorem pxl_ok (bl : Int → Int → Bool) (W' : Nat) (dx dy : Int) (k : Nat) : Pm.okPix (pxl bl W' dx dy k) = true := by
  unfold pxl; split <;> rfl
theorem pxls_ok (bl : Int → Int → Bool) (W' : Nat) (dx dy : Int) (n : Nat) : (pxls bl W' dx dy n).all Pm.okPix = true := by
  rw [List.all_eq_true]
  intro u hu
  obtain ⟨k, _, rfl⟩ := List.mem_map.1 hu
  exact pxl_ok bl W' dx dy k
theorem pxl_at (bl : Int → Int → Bool) (W' : Nat) (dx dy : Int) (y x : Nat) (hx : x < W') : pxl bl W' dx dy (y * W' + x) = if bl ((x : Int) - dx) ((y : Int) - dy) = true then 49 else 48 := by
  unfold pxl
  rw [Nat.mul_comm, Nat.mul_add_mod, Nat.mod_eq_of_lt hx, Nat.mul_add_div (by omega), Nat.div_eq_of_lt hx, Nat.add_zero]
theorem bit_pxls (bl : Int → Int → Bool) (W' : Nat) (dx dy : Int) (n k : Nat) (hk : k < n) : Pm.bitAt (pxls bl W' dx dy n) k = decide (pxl bl W' dx dy k = 49) := by
  unfold Pm.bitAt pxls
  rw [List.getElem?_map, List.getElem?_range hk]
  simp only [Option.map_some]
  by_cases h : pxl bl W' dx dy k = 49
  · rw [h]; rfl
  · rw [decide_eq_false h]; simpa using h
theorem pxls_mvd (W H : Nat) (l : List UInt8) (dx dy : Nat) : Qm.Mvd dx dy (Pm.blackB W H l) (Pm.blackB (W + dx) (H + dy) (pxls (Pm.blackB W H l) (W + dx) dx dy ((W + dx) * (H + dy)))) := by
  intro x y
  by_cases h : 0 ≤ x + dx ∧ 0 ≤ y + dy ∧ x + dx < ((W + dx : Nat) : Int) ∧ y + dy < ((H + dy : Nat) : Int)
  · obtain ⟨X, hX⟩ : ∃ X : Nat, x + dx = X := ⟨(x + dx).toNat, by omega⟩
    obtain ⟨Y, hY⟩ : ∃ Y : Nat, y + dy = Y := ⟨(y + dy).toNat, by omega⟩
    rw [hX, hY, Pm.blackB_in _ _ _ X Y (by omega) (by omega) (Y * (W + dx)) rfl]
    have hk : Y * (W + dx) + X < (W + dx) * (H + dy) := by
      have : (Y + 1) * (W + dx) ≤ (H + dy) * (W + dx) := Nat.mul_le_mul_right _ (by omega)
      rw [Nat.add_mul, Nat.one_mul, Nat.mul_comm (H + dy)] at this
      omega
    rw [bit_pxls _ _ _ _ _ _ hk, pxl_at _ _ _ _ _ _ (by omega), show (X : Int) - dx = x from by omega, show (Y : Int) - dy = y from by omega]
    cases Pm.blackB W H l x y <;> rfl
  · rw [Pm.blackB_out _ _ _ _ _ h]
    cases e : Pm.blackB W H l x y with
    | false => rfl
    | true =>
      exfalso
      have := fun hn => Pm.blackB_out W H l x y hn
      by_cases hi : 0 ≤ x ∧ 0 ≤ y ∧ x < W ∧ y < H
      · omega
      · rw [this hi] at e; simp at e

set_option maxRecDepth 4000 in
set_option maxHeartbeats 2000000 in
theorem moved_any (W H : Nat) (s : ByteArray) (dx dy : Nat) (w : World) (W1 : 1 ≤ W) (W2 : W ≤ 16) (H1 : 1 ≤ H) (H2 : H ≤ 16) (hl : s.size = W * H) (x2 : dx ≤ 16) (y2 : dy ≤ 16) :
    Calls Try.prog 31 #[.agg #[.int .i64 W, .int .i64 H, .string s], .int .i64 dx, .int .i64 dy] w fun e w' => (∃ l : List UInt8, e = .returned (.agg #[.int .i64 ((W + dx : Nat) : Int), .int .i64 ((H + dy : Nat) : Int), .string ⟨l.toArray⟩]) ∧ l.length = (W + dx) * (H + dy) ∧ l.all Pm.okPix = true ∧ Qm.Mvd dx dy (Pm.blackB W H s.data.toList) (Pm.blackB (W + dx) (H + dy) l)) ∧ Below w.heap.size w w' := by
  obtain ⟨i0, hi, hz0, hz1, hz2⟩ := info_parts infoByte
  have KB := hid (fun x y W' => keepBlack_any W H s x y W' (by omega) (by omega) hl)
  obtain ⟨bl, hbl⟩ : ∃ bl, bl = Pm.blackB W H s.data.toList := ⟨_, rfl⟩
  have MV := hid (show Qm.Mvd dx dy bl (Pm.blackB (W + dx) (H + dy) (pxls bl (W + dx) dx dy ((W + dx) * (H + dy)))) by rw [hbl]; exact pxls_mvd W H s.data.toList dx dy)
  rw [← hbl] at KB ⊢
  obtain ⟨V, hV⟩ : ∃ V, V = W + dx := ⟨_, rfl⟩
  obtain ⟨U, hU⟩ : ∃ U, U = H + dy := ⟨_, rfl⟩
  have eV : (W : Int) + (dx : Int) = (V : Nat) := by omega
  have eU : (H : Int) + (dy : Int) = (U : Nat) := by omega
  have V1 : 1 ≤ V ∧ V ≤ 32 := by omega
  have U1 : 1 ≤ U ∧ U ≤ 32 := by omega
  have PA := hid (fun y x (h : x < V) => pxl_at bl V dx dy y x h)
  rw [← hV, ← hU] at MV ⊢
  clear hbl hV hU hl
  go_enter Try.func31, Try.ntmps31
  go_wp2_with fail
  obtain ⟨X, hX⟩ : ∃ X, X = ((w.alloc (.cells #[.int .i64 W, .int .i64 H, .string s] 23)).alloc (.cells #[.int .i64 0, .int .i64 0, .string ⟨#[]⟩] 23)).alloc (.cells #[.int .i64 V, .int .i64 U, .string ⟨#[]⟩] 23) := ⟨_, rfl⟩
  have Xs : X.heap.size = w.heap.size + 3 := by rw [hX]; simp
  have Xb : Below w.heap.size w X := by rw [hX]; exact (((Below.refl _ _).alloc (Nat.le_refl _) _).alloc (by simp) _).alloc (by simp; omega) _
  have Y0 := ((Box3.new w (.int .i64 W) (.int .i64 H) (.string s) 23).alloc (.cells #[.int .i64 0, .int .i64 0, .string ⟨#[]⟩] 23)).alloc (.cells #[.int .i64 V, .int .i64 U, .string ⟨#[]⟩] 23)
  have Y1 := (Box3.new (w.alloc (.cells #[.int .i64 W, .int .i64 H, .string s] 23)) (.int .i64 0) (.int .i64 0) (.string ⟨#[]⟩) 23).alloc (.cells #[.int .i64 V, .int .i64 U, .string ⟨#[]⟩] 23)
  have Y2 := Box3.new ((w.alloc (.cells #[.int .i64 W, .int .i64 H, .string s] 23)).alloc (.cells #[.int .i64 0, .int .i64 0, .string ⟨#[]⟩] 23)) (.int .i64 V) (.int .i64 U) (.string ⟨#[]⟩) 23
  rw [← hX] at Y0 Y1 Y2
  rw [← hX]
  have XS := hid Xs
  have XB := hid Xb
  have Y0H := hid Y0
  have Y1H := hid Y1
  have Y2H := hid Y2
  clear hX Xs Xb Y0 Y1 Y2
  go_loopw [8, 9] (fun v yv wr => ∃ y : Nat, y ≤ U ∧ yv = .int .i64 y ∧ Hid (wr.ownsRow (w.heap.size + 3) 5 1 v (y * V) (cellsOf (pxls bl V dx dy (y * V)))) ∧ Hid (Below (w.heap.size + 3) X wr)) (fun _ i _ => U - (intOf i).toNat)
  case atStart => exact ⟨0, by omega, rfl, by rw [Nat.zero_mul]; exact World.ownsRow_nil _ _ _ _, Below.refl _ _⟩
  case round =>
    obtain ⟨y, hy, rfl, hO, hB⟩ := hrel
    have hnx := hid (hB.out.mono (B' := X.heap.size) (by rw [XS.out]; omega))
    obtain ⟨⟨z0, z1, z2⟩, ⟨j0, j1, j2⟩, -, zz⟩ := Y2H.out.on hnx.out
    simp at z0 z1 z2 j0 j1 j2 zz
    by_cases hlt : y < U
    · go_wp2_with fail
      clear z0 z1 z2 j0 j1 j2 zz
      have vy : (y + 1) * V = y * V + V := by rw [Nat.add_mul, Nat.one_mul]
      have vb : y * V + V ≤ 1024 := by rw [← vy]; exact Nat.mul_le_mul (show y + 1 ≤ 32 by omega) V1.2
      have VY := hid vy
      obtain ⟨q, hq⟩ : ∃ q, q = y * V := ⟨_, rfl⟩
      rw [← hq] at vb VY hO
      have HQ := hid hq
      clear vy hq
      go_loopw [8, 10] (fun v xv wr => ∃ x : Nat, x ≤ V ∧ xv = .int .i64 x ∧ Hid (wr.ownsRow (w.heap.size + 3) 5 1 v (q + x) (cellsOf (pxls bl V dx dy (q + x)))) ∧ Hid (Below (w.heap.size + 3) X wr)) (fun _ i _ => V - (intOf i).toNat)
      case atStart => exact ⟨0, by omega, rfl, hO, hB⟩
      case round =>
        clear hO hB hnx
        obtain ⟨x, hx, rfl, hO, hB⟩ := hrel
        have hnx := hid (hB.out.mono (B' := X.heap.size) (by rw [XS.out]; omega))
        have hsz : w.heap.size + 3 ≤ wr.heap.size := by have := hB.out.size; have := XS.out; omega
        obtain ⟨⟨a0, a1, a2⟩, -, -, az⟩ := Y0H.out.on hnx.out
        obtain ⟨⟨z0, z1, z2⟩, -, -, zz⟩ := Y2H.out.on hnx.out
        simp at z0 z1 z2 zz
        by_cases hlx : x < V
        · have PX := hid (show pxl bl V dx dy (q + x) = if bl ((x : Int) - dx) ((y : Int) - dy) = true then 49 else 48 by rw [HQ.out]; exact PA.out y x hlx)
          have PSU := hid (pxls_succ bl V dx dy (q + x))
          have KX := hid (KB.out ((x : Int) - dx) ((y : Int) - dy) wr)
          obtain ⟨t, ht⟩ : ∃ t, t = bl ((x : Int) - dx) ((y : Int) - dy) := ⟨_, rfl⟩
          rw [← ht] at PX KX
          clear ht
          go_wp2_with fail
          refine KX.out.mono ?_
          rintro e w3 ⟨rfl, e3⟩
          have B3 := hid (show Below (w.heap.size + 3) X w3 by rw [e3]; exact hB.out.alloc hsz _)
          have O3 := hid (show w3.ownsRow (w.heap.size + 3) 5 1 _ (q + x) (cellsOf (pxls bl V dx dy (q + x))) by rw [e3]; exact hO.out.alloc _)
          have z3 : w.heap.size + 3 ≤ w3.heap.size := by rw [e3]; simp; omega
          have m1 : q + x + 1 ≤ maxLen := by unfold maxLen; omega
          have m2 : (q + x + 1) * 1 ≤ 140737488355328 := by omega
          clear e3 a0 a1 a2 az z0 z1 z2 zz
          cases t
          · have PX0 := hid (show pxl bl V dx dy (q + x) = 48 by rw [PX.out]; rfl)
            go_wp2_with (first
              | (at_builtin; refine wpList_append_own _ rfl _ _ 76 rfl (w.heap.size + 3) 5 i0 (.int .u8 0) 1 1 Try.underlying76 hi hz0 hz1 hz2 rfl (by decide) _ _ _ rfl (O3.out.alloc _) ⟨_, 0, none⟩ 1 1 [.int .u8 48] rfl rfl (cell_one_new _ _ _) (by intro u hu; simp at hu; subst hu; rfl) m1 m2 (by simp; omega) ?_))
            intro v' w5 hown' hgrow _
            have B5 := hid (show Below (w.heap.size + 3) X w5 from (B3.out.alloc (by omega) _).grown hgrow (by simp; omega) (fun k hk => (O3.out.lt k hk).1))
            have O5 := hid (show w5.ownsRow (w.heap.size + 3) 5 1 v' (q + (x + 1)) (cellsOf (pxls bl V dx dy (q + (x + 1)))) by rw [← Nat.add_assoc, PSU.out, PX0.out, cellsOf_snoc]; exact hown')
            clear hown' hgrow
            go_wp2
            go_roundw
            case rel => exact ⟨x + 1, by omega, by go_num, O5, B5⟩
            case measure => simp [intOf]; omega
          · have PX0 := hid (show pxl bl V dx dy (q + x) = 49 by rw [PX.out]; rfl)
            go_wp2_with (first
              | (at_builtin; refine wpList_append_own _ rfl _ _ 76 rfl (w.heap.size + 3) 5 i0 (.int .u8 0) 1 1 Try.underlying76 hi hz0 hz1 hz2 rfl (by decide) _ _ _ rfl (O3.out.alloc _) ⟨_, 0, none⟩ 1 1 [.int .u8 49] rfl rfl (cell_one_new _ _ _) (by intro u hu; simp at hu; subst hu; rfl) m1 m2 (by simp; omega) ?_))
            intro v' w5 hown' hgrow _
            have B5 := hid (show Below (w.heap.size + 3) X w5 from (B3.out.alloc (by omega) _).grown hgrow (by simp; omega) (fun k hk => (O3.out.lt k hk).1))
            have O5 := hid (show w5.ownsRow (w.heap.size + 3) 5 1 v' (q + (x + 1)) (cellsOf (pxls bl V dx dy (q + (x + 1)))) by rw [← Nat.add_assoc, PSU.out, PX0.out, cellsOf_snoc]; exact hown')
            clear hown' hgrow
            go_wp2
            go_roundw
            case rel => exact ⟨x + 1, by omega, by go_num, O5, B5⟩
            case measure => simp [intOf]; omega
        · have ex : x = V := by omega
          have O5 := hid (show wr.ownsRow (w.heap.size + 3) 5 1 _ ((y + 1) * V) (cellsOf (pxls bl V dx dy ((y + 1) * V))) by rw [VY.out]; rw [ex] at hO; exact hO.out)
          have hlx' : ¬ (x : Int) < (V : Nat) := by omega
          go_wp2
          go_roundw
          case rel => exact ⟨y + 1, by omega, by go_num, O5, hB⟩
          case measure => simp [intOf]; omega
    · have ey : y = U := by omega
      subst ey
      have hly : ¬ (y : Int) < (y : Nat) := by omega
      obtain ⟨l, hl⟩ : ∃ l, l = pxls bl V dx dy (y * V) := ⟨_, rfl⟩
      have LL := hid (show l.length = y * V by rw [hl, pxls_len])
      have LO := hid (show l.all Pm.okPix = true by rw [hl]; exact pxls_ok _ _ _ _ _)
      have LM := hid (show Qm.Mvd dx dy bl (Pm.blackB V y l) by rw [hl, Nat.mul_comm]; exact MV.out)
      rw [← hl] at hO
      have vp : 0 < y * V := Nat.mul_pos (by omega) (by omega)
      rw [← LL.out] at hO vp
      have hown := hO.out
      obtain ⟨⟨b0, b1, b2⟩, ⟨g0, g1, g2⟩, -, bz⟩ := Y1H.out.on hnx.out
      simp at b0 b1 b2 g0 g1 g2 bz
      have BW := hid (show Below w.heap.size w wr from XB.out.trans (hB.out.mono (by omega)))
      have LC := hid (Nat.mul_comm y V)
      rcases hown.2 with ⟨-, h0⟩ | ⟨g, cap, cur, rfl, -, -, -, -, -, -⟩
      · omega
      · have hcv := run_convert_bytes_back (P := Try.prog) wr 76 9 5 ⟨g, 0, none⟩ cap l Try.underlying76 Try.underlying5 Try.underlying9 (fun j hj => hown.cells (g := g) rfl j _ (by simp [cellsOf, hj]))
        clear hl hown hO
        go_wp2
        refine bodyPost_ret (v := .agg #[.int .i64 V, .int .i64 y, .string ⟨l.toArray⟩]) (by simp [results, Try.results31, go_sem, World.cell?_setCell_other, World.cell?_setCell_same', *]) rfl ?_
        exact ⟨⟨l, rfl, by rw [LL.out, LC.out], List.all_eq_true.1 LO.out, LM.out⟩, by go_grown; exact BW.out⟩
end Go.Proofs.Ytljfiefobnncaaa

/- outlinekeep: Moved. -/
namespace Go.Proofs.Ytljfiefobnncaaa
open Go.RowKit
attribute [local go_sem ↓] Go.wp_at_zero Go.wp_at_succ

/-- A bitmap and options in boxes. -/
def BO (B C W H : Nat) (s : ByteArray) (pol : Nat) (wr : World) : Prop :=
  wr.cell? ⟨B, 0, none⟩ = some (.int .i64 W) ∧ wr.cell? ⟨B, 1, none⟩ = some (.int .i64 H) ∧ wr.cell? ⟨B, 2, none⟩ = some (.string s) ∧ wr.cell? ⟨C, 0, none⟩ = some (.int .i64 pol) ∧ wr.cell? ⟨C, 1, none⟩ = some (.string ⟨#[]⟩) ∧ wr.cell? ⟨C, 2, none⟩ = some (.int .i64 0) ∧ B < wr.heap.size ∧ C < wr.heap.size
theorem BO.on {B C W H : Nat} {s : ByteArray} {pol : Nat} {w w' : World} (h : BO B C W H s pol w) (hb : Below w.heap.size w w') : BO B C W H s pol w' := by
  obtain ⟨h1, h2, h3, h4, h5, h6, h7, h8⟩ := h
  exact ⟨(hb.cell (p := ⟨B, 0, none⟩) h7).trans h1, (hb.cell (p := ⟨B, 1, none⟩) h7).trans h2, (hb.cell (p := ⟨B, 2, none⟩) h7).trans h3, (hb.cell (p := ⟨C, 0, none⟩) h8).trans h4, (hb.cell (p := ⟨C, 1, none⟩) h8).trans h5, (hb.cell (p := ⟨C, 2, none⟩) h8).trans h6, Nat.lt_of_lt_of_le h7 hb.size, Nat.lt_of_lt_of_le h8 hb.size⟩
theorem ShownP.at2 {al : Option Addr} {cl n : Nat} {L : List (Value × List (Int × Int))} {X : World} (h : ShownP (.slice al n cl) L X) {gl : Nat} (hc : ∀ j u, (shpP L)[j]? = some u → X.cell? ⟨gl, j, none⟩ = some u) {i : Nat} (hi : i < L.length) :
    ∃ g c, L[i].1 = .slice (some ⟨g, 0, none⟩) L[i].2.length c ∧ 0 < L[i].2.length ∧ PtsAt g L[i].2 X ∧ X.cell? ⟨gl, i * 2, none⟩ = some (.slice (some ⟨g, 0, none⟩) L[i].2.length c) ∧ X.cell? ⟨gl, i * 2 + 1, none⟩ = some (.int .i64 (Qm.twiceOf L[i].2)) := by
  obtain ⟨g, c, e, h0, hp⟩ := h.pts L[i] (List.getElem_mem hi)
  have s := shpP_at L i hi
  have s1 := hc _ _ s.1
  have s2 := hc _ _ s.2
  rw [e] at s1
  exact ⟨g, c, e, h0, hp, s1, s2⟩
theorem two_cells2 (w : World) (g : Nat) (a b : Int) (t : TypeId) (hg : g = w.heap.size) : ∀ (j : Nat) (u : Value), [Value.int .i64 a, .int .i64 b][j]? = some u → (w.alloc (.cells #[.int .i64 a, .int .i64 b] t)).cell? ((⟨g, 0, none⟩ : Addr).add j) = some u := by
  subst hg
  exact two_cells w a b t
theorem polys_mv {W H W' H' : Nat} {s s' : ByteArray} {pol : Nat} {dx dy : Int} (hm : Qm.Mvd dx dy (Pm.blackB W H s.data.toList) (Pm.blackB W' H' s'.data.toList)) (hp : pol ≤ 2) (hw : W ≤ 32) (hh : H ≤ 32) (hw' : W' ≤ 32) (hh' : H' ≤ 32) {R R' : List (Qm.Sd × Nat)} (hR : Qm.Res (fB W H s pol ⟨#[]⟩) (bB W H s) Qm.key R) (hR' : Qm.Res (fB W' H' s' pol ⟨#[]⟩) (bB W' H' s') Qm.key R') :
    Qm.polys (fB W' H' s' pol ⟨#[]⟩) 0 R' = (Qm.polys (fB W H s pol ⟨#[]⟩) 0 R).map (List.map (Qm.mvP dx dy)) := by
  have hj := Qm.jn_mv hm hp [] []
  obtain rfl := hR'.unique (hR.mv hm hj)
  rw [Qm.polys_zero hR (Qm.pic_of W H s.data.toList hw hh), Qm.polys_zero hR' (Qm.pic_of W' H' s'.data.toList hw' hh'), List.map_map, List.map_map]
  refine List.map_congr_left fun c hc => ?_
  have cy := (hR.1 c hc).1
  have h0 : 0 < (Qm.ptsOf (fB W H s pol ⟨#[]⟩) c).length := by rw [Qm.ptsOf_len]; exact cy.2.1
  simp only [Function.comp_apply]
  rw [Qm.ptsOf_mv hm hj, Qm.cornL_mv _ h0 (Qm.cornN_lt h0 cy.unit)]

set_option maxRecDepth 4000 in
set_option maxHeartbeats 4000000 in
theorem movedLaw_any (ao : Option Addr) (len cap : Nat) (a h p px py : Int) (w : World) (hraw : RawIs ao len w) (hlen : len ≤ 140737488355328) (a1 : -9223372036854775808 ≤ a) (a2 : a ≤ 9223372036854775807) (h1 : -9223372036854775808 ≤ h) (h2 : h ≤ 9223372036854775807) (p1 : -9223372036854775808 ≤ p) (p2 : p ≤ 9223372036854775807) (x1 : -9223372036854775808 ≤ px) (x2 : px ≤ 9223372036854775807) (y1 : -9223372036854775808 ≤ py) (y2 : py ≤ 9223372036854775807) :
    Calls Try.prog 9 #[.slice ao len cap, .int .i64 a, .int .i64 h, .int .i64 p, .int .i64 px, .int .i64 py] w fun e w' => e = .returned (.bool true) ∧ Below w.heap.size w w' := by
  obtain ⟨i0, hi, hz0, hz1, hz2⟩ := info_parts infoShape
  obtain ⟨ip, hip, hp0, hp1, hp2⟩ := info_parts infoPoint
  have RW := hid hraw
  clear hraw
  go_enter Try.func9, Try.ntmps9
  go_wp2_with fail
  refine (traces_any _).mono ?_
  rintro e w1 ⟨rfl, hb⟩
  have B1 := hid (show Below w.heap.size w w1 from hb)
  clear hb
  go_wp2_with fail
  refine (built_most 16 (by omega) (by omega) ao len cap a h _ (RW.out.on B1.out) hlen a1 a2 h1 h2).mono ?_
  rintro e w2 ⟨⟨W, H, l, rfl, W1, W2', H1, H2', hl, hall⟩, hb⟩
  have W2 : W ≤ 32 := by omega
  have H2 : H ≤ 32 := by omega
  have MAY := hid (fun (pol : Nat) (hp : pol ≤ 3) => show mayB W H (⟨l.toArray⟩ : ByteArray).data.toList pol 0 = true from may_of (good_of W1 W2 H1 H2 hl hall) (by omega) (by omega) (by omega) (by omega))
  have HL := hid (show (⟨l.toArray⟩ : ByteArray).size = W * H from hl)
  have B2 := hid (show Below w.heap.size w w2 from B1.out.trans (hb.mono B1.out.size))
  clear hall hl hb RW
  obtain ⟨s, hs⟩ : ∃ s : ByteArray, s = ⟨l.toArray⟩ := ⟨_, rfl⟩
  rw [← hs] at MAY HL ⊢
  clear hs
  go_wp2_with fail
  refine (pick_any p 3 p1 p2 (by omega) (by omega) _).mono ?_
  rintro e w2' ⟨⟨pol, rfl, hpol⟩, rfl⟩
  go_wp2_with fail
  refine (pick_any px 17 x1 x2 (by omega) (by omega) _).mono ?_
  rintro e w2' ⟨⟨dx, rfl, hdx⟩, rfl⟩
  go_wp2_with fail
  refine (pick_any py 17 y1 y2 (by omega) (by omega) _).mono ?_
  rintro e w2' ⟨⟨dy, rfl, hdy⟩, rfl⟩
  have BX := hid (show BO w2.heap.size (w2.heap.size + 1) W H s pol ((w2.alloc (.cells #[.int .i64 W, .int .i64 H, .string s] 23)).alloc (.cells #[.int .i64 pol, .string ⟨#[]⟩, .int .i64 0] 25)) from ⟨by simp, by simp, by simp, by simp, by simp, by simp, by simp; omega, by simp⟩)
  have B3 := hid (show Below w.heap.size w ((w2.alloc (.cells #[.int .i64 W, .int .i64 H, .string s] 23)).alloc (.cells #[.int .i64 pol, .string ⟨#[]⟩, .int .i64 0] 25)) from (B2.out.alloc B2.out.size _).alloc (by have := B2.out.size; simp; omega) _)
  go_wp2_with fail
  refine (trace_yes W H s pol ⟨#[]⟩ 0 _ (MAY.out pol (by omega)) W2 H2 HL.out (by omega) (by omega) (by omega)).mono ?_
  rintro e w5 ⟨vm, rfl, R, Lm, hR5, hLm, hRow5, hRn, hb5⟩
  have B5 := hid (B3.out.trans (hb5.mono B3.out.size))
  have BX5 := hid (BX.out.on hb5)
  have RP5 := hid hRow5
  have PZ := hid hLm
  have RES := hid hR5
  clear hR5 hLm hRow5 hb5 BX
  obtain ⟨x0, x1, x2, x3, x4, x5, x6, x7⟩ := BX5.out
  obtain ⟨V, hV⟩ : ∃ V, V = W + dx := ⟨_, rfl⟩
  obtain ⟨U, hU⟩ : ∃ U, U = H + dy := ⟨_, rfl⟩
  have V2 : V ≤ 32 := by omega
  have U2 : U ≤ 32 := by omega
  have V1 : 1 ≤ V := by omega
  have U1 : 1 ≤ U := by omega
  have MVC := hid (show ∀ W', Calls Try.prog 31 #[.agg #[.int .i64 W, .int .i64 H, .string s], .int .i64 dx, .int .i64 dy] W' fun e w' => (∃ t : ByteArray, e = .returned (.agg #[.int .i64 V, .int .i64 U, .string t]) ∧ t.size = V * U ∧ t.data.toList.all Pm.okPix = true ∧ Qm.Mvd dx dy (Pm.blackB W H s.data.toList) (Pm.blackB V U t.data.toList)) ∧ Below W'.heap.size W' w' from fun W' => by
    rw [hV, hU]
    exact (moved_any W H s dx dy W' W1 (by omega) H1 (by omega) HL.out (by omega) (by omega)).mono fun e w' ⟨⟨l, he, h1, h2, h3⟩, hb⟩ => ⟨⟨⟨l.toArray⟩, he, h1, by simpa using h2, h3⟩, hb⟩)
  have MAY2 := hid (fun (t : ByteArray) (h1 : t.size = V * U) (h2 : t.data.toList.all Pm.okPix = true) => show mayB V U t.data.toList pol 0 = true from may_of (good_of V1 V2 U1 U2 (by rw [← h1]; simp) h2) (by omega) (by omega) (by omega) (by omega))
  have BXD := hid (show BO w2.heap.size (w2.heap.size + 1) W H s pol w5.drew from BX5.out)
  have B5D := hid (show Below w5.heap.size w5 w5.drew from ⟨rfl, rfl, rfl, Nat.le_refl _, fun _ _ => rfl⟩)
  clear hV hU
  go_wp2_with fail
  go_region_held3 (fun w' => w'.cell? ⟨w2.heap.size, 0, none⟩ = some (.int .i64 W) ∧ w'.cell? ⟨w2.heap.size, 1, none⟩ = some (.int .i64 H) ∧ w'.cell? ⟨w2.heap.size, 2, none⟩ = some (.string s) ∧ w'.cell? ⟨w2.heap.size + 1, 0, none⟩ = some (.int .i64 pol) ∧ w'.cell? ⟨w2.heap.size + 1, 1, none⟩ = some (.string ⟨#[]⟩) ∧ w'.cell? ⟨w2.heap.size + 1, 2, none⟩ = some (.int .i64 0) ∧ w2.heap.size < w'.heap.size ∧ w2.heap.size + 1 < w'.heap.size)
    (first | exact BXD.out | exact (by assumption : BO w2.heap.size (w2.heap.size + 1) W H s pol _))
    (first | (go_at_call 31; refine (MVC.out _).mono ?_; rintro e w6 ⟨⟨t, rfl, ht1, ht2, ht3⟩, hb6⟩; have B6 := hid (show Below w5.heap.size w5 w6 from B5D.out.trans hb6); have BX6 : BO w2.heap.size (w2.heap.size + 1) W H s pol w6 := BXD.out.on hb6; have HT1 := hid ht1; have HT2 := hid ht2; have HT3 := hid ht3; clear hb6 ht1 ht2 ht3) | (go_at_call 26; refine (trace_yes V U t pol ⟨#[]⟩ 0 _ (MAY2.out t HT1.out HT2.out) V2 U2 HT1.out (by omega) (by omega) (by omega)).mono ?_; rintro e w7 ⟨vn, rfl, R7, Ln, hR7, hLn, hRow7, -, hb7⟩; have B7 := hid (show Below w5.heap.size w5 w7 from B6.out.trans (hb7.mono B6.out.size)); have RES7 := hid hR7; have PN := hid hLn; have RP7 := hid hRow7; have BX7 : BO w2.heap.size (w2.heap.size + 1) W H s pol w7 := BX6.on hb7; clear hb7 hR7 hLn hRow7))
  have PMV := hid (show Ln.map (·.2) = (Lm.map (·.2)).map (List.map (Qm.mvP dx dy)) by rw [PN.out, PZ.out]; exact polys_mv HT3.out (by omega) W2 H2 V2 U2 RES.out RES7.out)
  have RP7m := hid (RP5.out.on B7.out)
  have B70 := hid (show Below w.heap.size w w7 from B5.out.trans (B7.out.mono B5.out.size))
  have LMP := hid (show ∀ p ∈ Lm, 0 < p.2.length ∧ p.2.length ≤ 4356 ∧ Qm.Small p.2 from fun p hp => by
    have : p.2 ∈ Qm.polys (fB W H s pol ⟨#[]⟩) 0 R := by rw [← PZ.out]; exact List.mem_map_of_mem hp
    unfold Qm.polys at this
    obtain ⟨c, hc, e⟩ := List.mem_map.1 this
    have hcy := (RES.out.1 c (List.mem_filter.1 hc).1).1
    have h1 := Qm.cornL_le (Qm.ptsOf (fB W H s pol ⟨#[]⟩) c)
    have h3 := cyc_le W2 H2 hcy
    rw [Qm.ptsOf_len] at h1
    rw [← e]; exact ⟨Qm.cornL_pos (by rw [Qm.ptsOf_len]; exact hcy.2.1), by omega, Qm.cornL_small (small_pts W2 H2 hcy)⟩)
  have LMN := hid (show Lm.length ≤ 1200 by
    have h1 := congrArg List.length PZ.out
    unfold Qm.polys at h1
    simp only [List.length_map] at h1
    have := List.length_filter_le (Qm.bigB (fB W H s pol ⟨#[]⟩) 0) R
    omega)
  have LNN := hid (show Ln.length = Lm.length by have := congrArg List.length PMV.out; simpa using this)
  have LNP := hid (show ∀ p ∈ Ln, 0 < p.2.length ∧ p.2.length ≤ 4356 from fun p hp => by
    have : p.2 ∈ (Lm.map (·.2)).map (List.map (Qm.mvP dx dy)) := by rw [← PMV.out]; exact List.mem_map_of_mem hp
    obtain ⟨q, hq, e⟩ := List.mem_map.1 this
    obtain ⟨r, hr, rfl⟩ := List.mem_map.1 hq
    have := LMP.out r hr
    rw [← e, List.length_map]; exact ⟨this.1, this.2.1⟩)
  have SHM := hid (RP7m.out.shown fun p hp => (LMP.out p hp).1)
  have SHN := hid (RP7.out.shown fun p hp => (LNP.out p hp).1)
  obtain ⟨am, cm, hvm, hrm⟩ := SHM.out.row
  subst hvm
  obtain ⟨n, hn⟩ : ∃ n, n = Lm.length := ⟨_, rfl⟩
  have nb : n ≤ 1200 := by rw [hn]; exact LMN.out
  rw [← hn] at hrm SHM ⊢
  have HN := hid hn
  have HRM := hid hrm
  clear hn hrm x0 x1 x2 x3 x4 x5 x6 x7 BX6 BX7
  go_wp2_with fail
  go_loopw [22, 23] (fun lv iv wr => ∃ (i : Nat) (L : List (Value × List (Int × Int))), i ≤ n ∧ iv = .int .i64 i ∧ L.length = i ∧ Hid (L.map (·.2) = ((Lm.map (·.2)).take i).map (List.map (Qm.mvP dx dy))) ∧ Hid (RowP w7.heap.size lv L wr) ∧ Hid (Below w7.heap.size w7 wr)) (fun _ i _ => n - (intOf i).toNat)
  case atStart => exact ⟨0, [], by omega, rfl, rfl, rfl, RowP.nil _ _, Below.refl _ _⟩
  case round =>
    obtain ⟨i, L, hin, rfl, hLi, hPL, hRP, hB⟩ := hrel
    obtain ⟨wo, rfl⟩ : ∃ wo, wo = wr := ⟨_, rfl⟩
    have hz := hB.out.size
    by_cases hlt : i < n
    · obtain ⟨gm, rfl, hgm, hcm⟩ := HRM.out.resolve_left (by omega)
      have hiM : i < Lm.length := by rw [← HN.out]; exact hlt
      obtain ⟨g, c, v2, m2, p2', e0, e1⟩ := SHM.out.at2 hcm hiM
      obtain ⟨_, m3, sm⟩ := LMP.out Lm[i] (List.getElem_mem hiM)
      have TK := hid (show ((Lm.map (·.2)).take (i + 1)).map (List.map (Qm.mvP dx dy)) = ((Lm.map (·.2)).take i).map (List.map (Qm.mvP dx dy)) ++ [Lm[i].2.map (Qm.mvP dx dy)] by
        rw [List.take_add_one, List.getElem?_eq_getElem (by simpa using hiM), List.map_append]; simp)
      obtain ⟨ps, hps⟩ : ∃ ps, ps = Lm[i].2 := ⟨_, rfl⟩
      rw [← hps] at m2 p2' e0 e1 m3 sm TK
      obtain ⟨m, hm⟩ : ∃ m, m = ps.length := ⟨_, rfl⟩
      rw [← hm] at m2 e0 m3
      have HM := hid hm
      have TWM := hid (Qm.twice_mv (dx := dx) (dy := dy) ps)
      obtain ⟨tw, htw⟩ : ∃ tw, tw = Qm.twiceOf ps := ⟨_, rfl⟩
      rw [← htw] at e1 TWM
      have PT := hid p2'
      have hg := p2'.1
      have SM := hid sm
      have i1 : (0 : Int) ≤ (i : Nat) := by omega
      have i2 : ((i : Nat) : Int) < (n : Nat) := by omega
      have f0 := (hB.out.cell (p := ⟨gm, i * 2, none⟩) hgm).trans e0
      have f1 := (hB.out.cell (p := ⟨gm, i * 2 + 1, none⟩) hgm).trans e1
      have hgr : gm < wo.heap.size := by omega
      have S1 := hid (Box2.new wo (.slice none 0 0) (.int .i64 tw) 43)
      have RD := hid (show ∀ wx, Below wo.heap.size wo wx → wx.cell? ⟨gm, i * 2, none⟩ = some (.slice (some ⟨g, 0, none⟩) m c) ∧ PtsAt g ps wx from fun wx hx => ⟨(hx.cell (p := ⟨gm, i * 2, none⟩) hgr).trans f0, (PT.out.on hB.out hg).on hx (by omega)⟩)
      clear p2' e0 e1 v2 hcm hps hm htw sm
      go_wp2_with fail
      clear f0 f1
      go_loopw [25] (fun kv wx => ∃ (k : Nat) (v : Value), k ≤ m ∧ kv = .int .i64 k ∧ Hid (Box2 wo.heap.size v (.int .i64 tw) wx) ∧ Hid (wx.ownsRow (wo.heap.size + 1) 47 2 v k (Qm.ptsV ((ps.map (Qm.mvP dx dy)).take k))) ∧ Hid (Below wo.heap.size wo wx)) (fun i _ => m - (intOf i).toNat)
      case atStart => exact ⟨0, _, by omega, rfl, S1, World.ownsRow_nil _ _ _ _, (Below.refl _ _).alloc (Nat.le_refl _) _⟩
      case round =>
        clear S1
        obtain ⟨k, v, hkm, rfl, hS, hO, hX⟩ := hrel
        obtain ⟨s0, s1, s2, s3, s4⟩ := hS.out
        obtain ⟨ao', capo, hv, hcapo⟩ := own_cap hO.out
        subst hv
        have hzx := hX.out.size
        obtain ⟨r0, rp⟩ := RD.out _ hX.out
        by_cases hk : k < m
        · obtain ⟨q0, q1⟩ := rp.2 k (by rw [← HM.out]; exact hk)
          have sp := SM.out.at k
          have NX := hid (show (ps.map (Qm.mvP dx dy)).take (k + 1) = (ps.map (Qm.mvP dx dy)).take k ++ [Qm.mvP dx dy (ps.getD k (0, 0))] by
            have hk' : k < ps.length := by rw [← HM.out]; exact hk
            rw [List.take_add_one, List.getElem?_eq_getElem (by simpa using hk')]
            simp [List.getD_eq_getElem?_getD, hk'])
          obtain ⟨⟨pa, pb⟩, hpp⟩ : ∃ p, p = ps.getD k (0, 0) := ⟨_, rfl⟩
          rw [← hpp] at q0 q1 sp NX
          dsimp only at q0 q1 sp
          have NX2 := hid (show Qm.mvP dx dy (pa, pb) = (pa + (dx : Int), pb + (dy : Int)) from rfl)
          have k1 : (0 : Int) ≤ (k : Nat) := by omega
          have k2 : ((k : Nat) : Int) < (m : Nat) := by omega
          have m1 : k + 1 ≤ maxLen := by unfold maxLen; omega
          have m2' : (k + 1) * 16 ≤ 140737488355328 := by omega
          have gx : gm < wr.heap.size := by omega
          have ggx : g < wr.heap.size := by omega
          have ggx2 : g < wr.heap.size + 1 := by omega
          have W8 := hid (show Below wr.heap.size wr (wr.alloc (.cells #[.int .i64 pa, .int .i64 pb] 47)) from (Below.refl _ _).alloc (Nat.le_refl _) _)
          have O8 := hid (hO.out.alloc (.cells #[.int .i64 pa, .int .i64 pb] 47))
          have S8 := hid (hS.out.on W8.out s0)
          have n3 : wo.heap.size + 1 ≤ ((wr.alloc (.cells #[.int .i64 pa, .int .i64 pb] 47)).alloc (.cells #[.int .i64 (pa + (dx : Int)), .int .i64 (pb + (dy : Int))] 47)).heap.size := by simp; omega
          clear hpp
          go_wp2_with (first
            | (at_builtin; refine wpList_append_own_at _ rfl _ _ 41 rfl (wo.heap.size + 1) 47 ip (.agg #[.int .i64 0, .int .i64 0]) 2 16 Try.underlying41 hip hp0 hp1 hp2 rfl (by decide) _ _ _ rfl (O8.out.alloc _) ⟨_, 0, none⟩ 1 1 [.int .i64 (pa + (dx : Int)), .int .i64 (pb + (dy : Int))] rfl rfl (two_cells2 _ _ _ _ _ (by simp)) (two_one _ _) m1 m2' n3 ?_))
          intro v9 w9 o9 g9 _ _
          have o9' : w9.ownsRow (wo.heap.size + 1) 47 2 v9 (k + 1) (Qm.ptsV ((ps.map (Qm.mvP dx dy)).take (k + 1))) := by rw [NX.out, Qm.ptsV_snoc, NX2.out]; exact o9
          obtain ⟨h9, cap9, rfl, -⟩ := own_src o9' (by omega)
          have S9 := hid (show Box2 wo.heap.size (.slice ao' k capo) (.int .i64 tw) w9 from (S8.out.on ((Below.refl _ _).alloc (Nat.le_refl _) (.cells #[.int .i64 (pa + (dx : Int)), .int .i64 (pb + (dy : Int))] 47)) (by simp; omega)).gb g9 (fun e => by have := (hO.out.lt _ e).1; omega))
          have B9 := hid (show Below wo.heap.size wo w9 from ((hX.out.alloc hzx _).alloc (by simp; omega) _).grown g9 (by simp; omega) (fun q hq => by have := (hO.out.lt q hq).1; omega))
          have O10 := hid (own_keep o9' (g := wo.heap.size) (by omega) (set_grown (Below.refl _ _) ⟨wo.heap.size, 0, none⟩ (v := .slice (some ⟨h9, 0, none⟩) (k + 1) cap9)))
          have S10 := hid (S9.out.set0 (.slice (some ⟨h9, 0, none⟩) (k + 1) cap9))
          have B10 := hid (B9.out.setCell (p := ⟨wo.heap.size, 0, none⟩) (show wo.heap.size ≤ wo.heap.size from Nat.le_refl _) (.slice (some ⟨h9, 0, none⟩) (k + 1) cap9))
          obtain ⟨t0, t1, t2, t3, t4⟩ := S9.out
          clear o9 g9 o9' s0 s1 s2 s3 s4 r0 q0 q1
          go_wp2
          go_roundw
          case rel => exact ⟨k + 1, _, by omega, by go_num, S10, O10, B10⟩
          case measure => simp [intOf]; omega
        · have ek : k = m := by omega
          subst ek
          have o2 : wr.ownsRow (wo.heap.size + 1) 47 2 (.slice ao' k capo) (ps.map (Qm.mvP dx dy)).length (Qm.ptsV (ps.map (Qm.mvP dx dy))) := by
            have := hO.out
            rw [HM.out] at this ⊢
            rw [List.length_map]
            rwa [List.take_of_length_le (by simp)] at this
          have O2 := hid o2
          have k2 : ¬ ((k : Nat) : Int) < (k : Nat) := by omega
          have n1 : L.length + 1 ≤ maxLen := by unfold maxLen; omega
          have n2 : (L.length + 1) * 32 ≤ 140737488355328 := by omega
          have gx : gm < wr.heap.size := by omega
          have RR := hid (hRP.out.on hX.out)
          have n3 : w7.heap.size ≤ (wr.alloc (.cells #[.slice ao' k capo, .int .i64 tw] 43)).heap.size := by simp; omega
          have HLI := hid hLi
          clear o2 hLi
          go_wp2_with (first
            | (at_builtin; refine wpList_append_own_at _ rfl _ _ 35 rfl w7.heap.size 43 i0 (.agg #[.slice none 0 0, .int .i64 0]) 2 32 Try.underlying35 hi hz0 hz1 hz2 rfl (by decide) _ _ _ rfl (RR.out.row.alloc _) ⟨_, 0, none⟩ 1 1 [.slice ao' k capo, .int .i64 tw] rfl rfl (vt_cells _ _ _ _ _ _ _ rfl) (vt_one _ _ _ _) n1 n2 n3 ?_))
          intro vl' w9 o9 g9 _ e9
          have RP9 := hid (hRP.out.snoc (v := .slice ao' k capo) (l := ps.map (Qm.mvP dx dy)) (vl' := vl') (by omega) hX.out (O2.out.mono (by omega)) (by rw [List.length_map, ← HM.out]; exact m2) (Below.refl _ _) (by rw [TWM.out]; exact o9) g9 (by simpa using e9))
          have B9 := hid (show Below w7.heap.size w7 w9 from ((hB.out.trans (hX.out.mono hz)).alloc (by omega) _).grown g9 n3 (fun q hq => (RR.out.row.lt q hq).1))
          have PLN := hid (show (L ++ [(Value.slice ao' k capo, ps.map (Qm.mvP dx dy))]).map (·.2) = ((Lm.map (·.2)).take (i + 1)).map (List.map (Qm.mvP dx dy)) by rw [TK.out, List.map_append, hPL.out]; rfl)
          clear o9 g9 e9 s0 s1 s2 s3 s4 r0
          go_wp2
          go_roundw
          case rel => exact ⟨i + 1, _, by omega, by go_num, by have := HLI.out; simp; omega, PLN, RP9, B9⟩
          case measure => simp [intOf]; omega
    · have ei : i = n := by omega
      subst ei
      have hlt' : ¬ (i : Int) < (i : Nat) := by omega
      have EQ := hid (show Ln.map (·.2) = L.map (·.2) by rw [PMV.out, hPL.out, HN.out, List.take_of_length_le (by simp)])
      have SHN2 := hid (SHN.out.on hB.out)
      have LW := hid (show ∀ p ∈ L, 0 < p.2.length from fun p hp => by
        have : p.2 ∈ Ln.map (·.2) := by rw [EQ.out]; exact List.mem_map_of_mem hp
        obtain ⟨q, hq, e⟩ := List.mem_map.1 this
        rw [← e]; exact (LNP.out q hq).1)
      have SHW := hid (hRP.out.shown LW.out)
      go_wp2_with fail
      refine (sameShapes_any vn _ Ln L _ EQ.out SHN2.out SHW.out (by have := LNN.out; have := LMN.out; omega) (fun p hp => by have := (LNP.out p hp).2; omega)).mono ?_
      rintro e w8 ⟨rfl, hb8⟩
      have B8 := hid (show Below w.heap.size w w8 from (B70.out.trans (hB.out.mono B70.out.size)).trans (hb8.mono (Nat.le_trans B70.out.size hz)))
      clear hb8
      go_wp2
      go_ret
      exact ⟨rfl, B8.out⟩
end Go.Proofs.Ytljfiefobnncaaa

/- outlinekeep: wind, through. -/
namespace Go.Proofs.Ytljfiefobnncaaa
open Go.RowKit

namespace Qm
theorem mul_200 {a b : Int} (a0 : -200 ≤ a) (a1 : a ≤ 200) (b0 : -200 ≤ b) (b1 : b ≤ 200) : -40000 ≤ a * b ∧ a * b ≤ 40000 := by
  have p : ∀ {u v : Int}, 0 ≤ u → u ≤ 200 → 0 ≤ v → v ≤ 200 → 0 ≤ u * v ∧ u * v ≤ 40000 := fun a b c d => ⟨Int.mul_nonneg a c, Int.mul_le_mul b d c (by omega)⟩
  rcases Int.le_total 0 a with ha | ha <;> rcases Int.le_total 0 b with hb | hb
  · have := p ha a1 hb b1; omega
  · have := p ha a1 (show 0 ≤ -b by omega) (by omega); rw [Int.mul_neg] at this; omega
  · have := p (show 0 ≤ -a by omega) (by omega) hb b1; rw [Int.neg_mul] at this; omega
  · have := p (show 0 ≤ -a by omega) (by omega) (show 0 ≤ -b by omega) (by omega); rw [Int.neg_mul_neg] at this; omega
theorem far_over (px py qx qy x y : Int) : farZ (px, py) (qx, qy) x y = 2 * px * (qy - py) + (qx - px) * (2 * y + 1 - 2 * py) - (2 * x + 1) * (qy - py) := by
  unfold farZ; grind
end Qm

set_option maxHeartbeats 1000000 in
theorem wind_any (p q : Int × Int) (x y : Int) (hp : PtIn p) (hq : PtIn q) (x0 : -32 ≤ x) (x1 : x ≤ 64) (y0 : -32 ≤ y) (y1 : y ≤ 64) (w : World) :
    Calls Try.prog 46 #[.agg #[.int .i64 p.1, .int .i64 p.2], .agg #[.int .i64 q.1, .int .i64 q.2], .int .i64 x, .int .i64 y] w fun e w' => e = .returned (.int .i64 (Qm.wdZ p q x y)) ∧ Below w.heap.size w w' := by
  have E := hid (Qm.wdZ_eq p q x y)
  unfold PtIn at hp hq
  obtain ⟨px, py⟩ := p
  obtain ⟨qx, qy⟩ := q
  dsimp only at hp hq E ⊢
  have F := hid (Qm.far_over px py qx qy x y)
  have m1 := Qm.mul_200 (a := 2 * px) (b := qy - py) (by omega) (by omega) (by omega) (by omega)
  have m2 := Qm.mul_200 (a := qx - px) (b := 2 * y + 1 - 2 * py) (by omega) (by omega) (by omega) (by omega)
  have m3 := Qm.mul_200 (a := 2 * x + 1) (b := qy - py) (by omega) (by omega) (by omega) (by omega)
  obtain ⟨u, hu⟩ : ∃ u, 2 * px * (qy - py) = u := ⟨_, rfl⟩
  obtain ⟨v, hv⟩ : ∃ v, (qx - px) * (2 * y + 1 - 2 * py) = v := ⟨_, rfl⟩
  obtain ⟨t, ht⟩ : ∃ t, (2 * x + 1) * (qy - py) = t := ⟨_, rfl⟩
  rw [hu] at m1 F
  rw [hv] at m2 F
  rw [ht] at m3 F
  rw [F.out] at E
  obtain ⟨z, hz⟩ : ∃ z, Qm.wdZ (px, py) (qx, qy) x y = z := ⟨_, rfl⟩
  rw [hz] at E ⊢
  clear F hz
  cases hd1 : decide (py ≤ y) <;> cases hd2 : decide (qy ≤ y)
  all_goals simp only [decide_eq_true_eq, decide_eq_false_iff_not] at hd1 hd2
  · have Z := hid (show z = 0 by rw [E.out, if_neg (by omega), if_neg (by omega)])
    go_enter Try.func46, Try.ntmps46
    go_wp2
    go_ret
    exact ⟨ret_int Z.out.symm, by go_grown⟩
  · by_cases h : u + v - t < 0
    · have Z := hid (show z = 1 by rw [E.out, if_pos (by omega)])
      go_enter Try.func46, Try.ntmps46
      go_wp2
      go_ret
      exact ⟨ret_int Z.out.symm, by go_grown⟩
    · have Z := hid (show z = 0 by rw [E.out, if_neg (by omega), if_neg (by omega)])
      go_enter Try.func46, Try.ntmps46
      go_wp2
      go_ret
      exact ⟨ret_int Z.out.symm, by go_grown⟩
  · by_cases h : 0 < u + v - t
    · have Z := hid (show z = -1 by rw [E.out, if_neg (by omega), if_pos (by omega)])
      go_enter Try.func46, Try.ntmps46
      go_wp2
      go_ret
      exact ⟨ret_int Z.out.symm, by go_grown⟩
    · have Z := hid (show z = 0 by rw [E.out, if_neg (by omega), if_neg (by omega)])
      go_enter Try.func46, Try.ntmps46
      go_wp2
      go_ret
      exact ⟨ret_int Z.out.symm, by go_grown⟩
  · have Z := hid (show z = 0 by rw [E.out, if_neg (by omega), if_neg (by omega)])
    go_enter Try.func46, Try.ntmps46
    go_wp2
    go_ret
    exact ⟨ret_int Z.out.symm, by go_grown⟩

set_option maxHeartbeats 1000000 in
theorem keepThrough_any (p q : Int × Int) (x y : Int) (hp : PtIn p) (hq : PtIn q) (x0 : -32 ≤ x) (x1 : x ≤ 64) (y0 : -32 ≤ y) (y1 : y ≤ 64) (w : World) :
    Calls Try.prog 47 #[.agg #[.int .i64 p.1, .int .i64 p.2], .agg #[.int .i64 q.1, .int .i64 q.2], .int .i64 x, .int .i64 y] w fun e w' => e = .returned (.bool (Qm.thB p q x y)) ∧ Below w.heap.size w w' := by
  have T := hid (Qm.thR_iff p q x y)
  rw [← Qm.th_same]
  unfold PtIn at hp hq
  obtain ⟨px, py⟩ := p
  obtain ⟨qx, qy⟩ := q
  dsimp only at hp hq T ⊢
  have m1 := Qm.mul_200 (a := 2 * px - 2 * x - 1) (b := 2 * qy - 2 * y - 1) (by omega) (by omega) (by omega) (by omega)
  have m2 := Qm.mul_200 (a := 2 * py - 2 * y - 1) (b := 2 * qx - 2 * x - 1) (by omega) (by omega) (by omega) (by omega)
  have m3 := Qm.mul_200 (a := 2 * px - 2 * x - 1) (b := 2 * qx - 2 * x - 1) (by omega) (by omega) (by omega) (by omega)
  have m4 := Qm.mul_200 (a := 2 * py - 2 * y - 1) (b := 2 * qy - 2 * y - 1) (by omega) (by omega) (by omega) (by omega)
  have C := hid (show Qm.crZ (px, py) (qx, qy) x y = (2 * px - 2 * x - 1) * (2 * qy - 2 * y - 1) - (2 * py - 2 * y - 1) * (2 * qx - 2 * x - 1) by unfold Qm.crZ; simp only; rw [show 2 * (px - x) - 1 = 2 * px - 2 * x - 1 from by omega, show 2 * (qy - y) - 1 = 2 * qy - 2 * y - 1 from by omega, show 2 * (py - y) - 1 = 2 * py - 2 * y - 1 from by omega, show 2 * (qx - x) - 1 = 2 * qx - 2 * x - 1 from by omega])
  have D := hid (show Qm.dtZ (px, py) (qx, qy) x y = (2 * px - 2 * x - 1) * (2 * qx - 2 * x - 1) + (2 * py - 2 * y - 1) * (2 * qy - 2 * y - 1) by unfold Qm.dtZ; simp only; rw [show 2 * (px - x) - 1 = 2 * px - 2 * x - 1 from by omega, show 2 * (qy - y) - 1 = 2 * qy - 2 * y - 1 from by omega, show 2 * (py - y) - 1 = 2 * py - 2 * y - 1 from by omega, show 2 * (qx - x) - 1 = 2 * qx - 2 * x - 1 from by omega])
  obtain ⟨u, hu⟩ : ∃ u, (2 * px - 2 * x - 1) * (2 * qy - 2 * y - 1) = u := ⟨_, rfl⟩
  obtain ⟨v, hv⟩ : ∃ v, (2 * py - 2 * y - 1) * (2 * qx - 2 * x - 1) = v := ⟨_, rfl⟩
  obtain ⟨s, hs⟩ : ∃ s, (2 * px - 2 * x - 1) * (2 * qx - 2 * x - 1) = s := ⟨_, rfl⟩
  obtain ⟨t, ht⟩ : ∃ t, (2 * py - 2 * y - 1) * (2 * qy - 2 * y - 1) = t := ⟨_, rfl⟩
  rw [hu] at m1 C
  rw [hv] at m2 C
  rw [hs] at m3 D
  rw [ht] at m4 D
  rw [C.out, D.out] at T
  obtain ⟨r, hr⟩ : ∃ r, Qm.thR (px, py) (qx, qy) x y = r := ⟨_, rfl⟩
  rw [hr] at T ⊢
  clear C D hr
  by_cases h1 : u = v
  · subst h1
    by_cases h2 : s + t ≤ 0
    · have R := hid (show r = true from T.out.2 ⟨by omega, h2⟩)
      have b2 : decide (s + t ≤ 0) = true := by simpa using h2
      go_enter Try.func47, Try.ntmps47
      go_wp2
      go_ret
      exact ⟨ret_bool R.out.symm, by go_grown⟩
    · have R := hid (show r = false by cases hr : r with | false => rfl | true => exact absurd (T.out.1 hr).2 h2)
      have b2 : decide (s + t ≤ 0) = false := by simpa using h2
      go_enter Try.func47, Try.ntmps47
      go_wp2
      go_ret
      exact ⟨ret_bool R.out.symm, by go_grown⟩
  · have R := hid (show r = false by cases hr : r with | false => rfl | true => exact absurd (T.out.1 hr).1 (by omega))
    have b1 : (u == v) = false := by simpa using h1
    go_enter Try.func47, Try.ntmps47
    go_wp2
    go_ret
    exact ⟨ret_bool R.out.symm, by go_grown⟩
end Go.Proofs.Ytljfiefobnncaaa
