import Derived.Test.YtljfiefobnncaaaK23
import Derived.Test.YtljfiefobnncaaaK01
import Derived.SizedLaws
import Derived.Test.YtljfiefobnncaaaK02
import Derived.Test.YtljfiefobnncaaaK09
import Derived.Test.YtljfiefobnncaaaK05
import Derived.Test.YtljfiefobnncaaaK20
import Derived.Test.YtljfiefobnncaaaK03

/- built: a bitmap out of raw numbers. -/
namespace Go.Proofs.Ytljfiefobnncaaa
open Go.RowKit

theorem and_one_i64 (x : Int) : ∃ b : Nat, b ≤ 1 ∧ bits BinOp.and IntKind.i64 x 1 = (b : Int) := by
  refine ⟨(BitVec.ofInt 64 x &&& BitVec.ofInt 64 1).toNat, ?_, ?_⟩
  · rw [BitVec.toNat_and, show (BitVec.ofInt 64 1).toNat = 1 from rfl, Nat.and_one_is_mod]; omega
  · show IntKind.i64.wrap ((BitVec.ofInt 64 x &&& BitVec.ofInt 64 1).toNat : Int) = _
    rw [BitVec.toNat_and, show (BitVec.ofInt 64 1).toNat = 1 from rfl, Nat.and_one_is_mod, IntKind.wrap_i64]; omega

/-- What a slice of raw numbers gives: nothing, or a number at each place below its length. -/
def RawIs (ao : Option Addr) (len : Nat) (w : World) : Prop :=
  len = 0 ∨ ∃ b off, ao = some ⟨b, off, none⟩ ∧ b < w.heap.size ∧ ∀ j, j < len → ∃ z, w.cell? ⟨b, off + j, none⟩ = some (.int .i64 z)

set_option maxRecDepth 4000 in
set_option maxHeartbeats 2000000 in
theorem built_core (ao : Option Addr) (len cap : Nat) (a h : Int) (w : World) (hraw : RawIs ao len w) (hlen : len ≤ 140737488355328) (a1 : -9223372036854775808 ≤ a) (a2 : a ≤ 9223372036854775807) (h1 : -9223372036854775808 ≤ h) (h2 : h ≤ 9223372036854775807) :
    Calls Try.prog 14 #[.slice ao len cap, .int .i64 a, .int .i64 h, .int .i64 32] w fun e w' => (∃ (W H : Nat) (l : List UInt8), e = .returned (.agg #[.int .i64 W, .int .i64 H, .string ⟨l.toArray⟩]) ∧ 1 ≤ W ∧ W ≤ 32 ∧ 1 ≤ H ∧ H ≤ 32 ∧ l.length = W * H ∧ l.all Pm.okPix = true) ∧ Below w.heap.size w w' := by
  obtain ⟨i0, hi, hz0, hz1, hz2⟩ := info_parts infoByte
  go_enter Try.func14, Try.ntmps14
  go_wp2_with fail
  refine (pick_any a 32 a1 a2 (by omega) (by omega) _).mono ?_
  rintro e w1 ⟨⟨r1, rfl, hr1⟩, rfl⟩
  go_wp2_with fail
  refine (pick_any h 32 h1 h2 (by omega) (by omega) _).mono ?_
  rintro e w1 ⟨⟨r2, rfl, hr2⟩, rfl⟩
  go_wp2
  have hraw2 := hid hraw
  clear hraw
  obtain ⟨W, hW⟩ : ∃ W, W = 1 + r1 := ⟨_, rfl⟩
  obtain ⟨H, hH⟩ : ∃ H, H = 1 + r2 := ⟨_, rfl⟩
  have eW : (1 : Int) + (r1 : Int) = (W : Nat) := by omega
  have eH : (1 : Int) + (r2 : Int) = (H : Nat) := by omega
  have W1 : 1 ≤ W := by omega
  have W2 : W ≤ 32 := by omega
  have H1 : 1 ≤ H := by omega
  have H2 : H ≤ 32 := by omega
  simp only [eW, eH]
  clear eW eH hW hH hr1 hr2
  obtain ⟨t, ht⟩ : ∃ t, t = W * H := ⟨_, rfl⟩
  have et : (W : Int) * (H : Int) = (t : Nat) := by rw [ht]; simp
  have t1 : 1 ≤ t := by rw [ht]; exact Nat.mul_le_mul W1 H1
  have t2 : t ≤ 1024 := by rw [ht]; exact Nat.mul_le_mul W2 H2
  have T := hid ht
  clear ht
  obtain ⟨X, hX⟩ : ∃ X, X = (w.alloc (.cells #[.int .i64 0, .int .i64 0, .string ⟨#[]⟩] 23)).alloc (.cells #[.int .i64 W, .int .i64 H, .string ⟨#[]⟩] 23) := ⟨_, rfl⟩
  have Xs : X.heap.size = w.heap.size + 2 := by rw [hX]; simp
  have Xb : Below w.heap.size w X := by rw [hX]; exact ((Below.refl _ _).alloc (Nat.le_refl _) _).alloc (by simp) _
  have Y := Box3.new w (.int .i64 0) (.int .i64 0) (.string ⟨#[]⟩) 23 |>.alloc (.cells #[.int .i64 W, .int .i64 H, .string ⟨#[]⟩] 23)
  have Z := Box3.new (w.alloc (.cells #[.int .i64 0, .int .i64 0, .string ⟨#[]⟩] 23)) (.int .i64 W) (.int .i64 H) (.string ⟨#[]⟩) 23
  rw [← hX] at Y Z
  rw [← hX]
  have XS := hid Xs
  have XB := hid Xb
  have YH := hid Y
  have ZH := hid Z
  clear hX Xs Xb Y Z
  go_loopw [10, 11] (fun v i wr => ∃ (l : List UInt8), i = .int .i64 l.length ∧ l.length ≤ t ∧ Hid (l.all Pm.okPix = true) ∧ wr.ownsRow (w.heap.size + 2) 5 1 v l.length (cellsOf l) ∧ Below (w.heap.size + 2) X wr) (fun _ i _ => t - (intOf i).toNat)
  case atStart => exact ⟨[], rfl, by simp, rfl, World.ownsRow_nil _ _ _ _, Below.refl _ _⟩
  case round =>
    obtain ⟨l, rfl, hlt0, hall, hown, hnx⟩ := hrel
    have hsz : w.heap.size + 2 ≤ wr.heap.size := by have := hnx.size; have := XS.out; omega
    have hnx2 : Below X.heap.size X wr := hnx.mono (by rw [XS.out]; omega)
    obtain ⟨⟨y0, y1, y2⟩, ⟨g0, g1, g2⟩, yB, yz⟩ := YH.out.on hnx2
    obtain ⟨⟨z0, z1, z2⟩, ⟨j0, j1, j2⟩, zB, zz⟩ := ZH.out.on hnx2
    simp at z0 z1 z2 j0 j1 j2 zz
    have HB := hid yB
    have HN := hid hnx2
    clear yB zB hnx2
    by_cases hlt : l.length < t
    · by_cases hq : l.length / 16 < len
      · rcases hraw2.out with hl0 | ⟨b, off, rfl, hb0, hcell⟩
        · omega
        · obtain ⟨z, hz⟩ := hcell (l.length / 16) hq
          have hzr : wr.cell? ⟨b, off + l.length / 16, none⟩ = some (.int .i64 z) := ((HN.out.mono (by rw [XS.out]; omega)).cell (p := ⟨b, off + l.length / 16, none⟩) (show b < w.heap.size from hb0)).trans ((XB.out.cell (p := ⟨b, off + l.length / 16, none⟩) hb0).trans hz)
          clear hz hcell
          obtain ⟨bit, hbit, hbe⟩ := and_one_i64 (z / 2 ^ (l.length % 16))
          have BV : (UInt8.ofNat (48 + bit)).toNat = 48 + bit := by simp only [UInt8.toNat_ofNat']; omega
          have BO : Hid (Pm.okPix (UInt8.ofNat (48 + bit)) = true) := Pm.okPix_of _ (by rw [BV]; omega)
          have BVH := hid BV
          clear BV
          go_wp2_with (first
            | (at_builtin; refine wpList_append_own _ rfl _ _ 76 rfl (w.heap.size + 2) 5 i0 (.int .u8 0) 1 1 Try.underlying76 hi hz0 hz1 hz2 rfl (by decide) _ _ _ rfl (hown.alloc _) ⟨_, 0, none⟩ 1 1 [.int .u8 (48 + (bit : Int))] rfl rfl ?c1 ?c2 ?c3 ?c4 ?c5 ?_))
          case c1 =>
            intro j' u hj'
            match j', hj' with
            | 0, hj' => simp at hj'; subst hj'; simp [Addr.add]
          case c2 => intro u hu; simp at hu; subst hu; rfl
          case c3 => unfold maxLen; omega
          case c4 => omega
          case c5 => simp; omega
          · intro v' w3 hown' hgrow _
            have hb : Below (w.heap.size + 2) X w3 := (hnx.alloc (by omega) _).grown hgrow (by simp; omega) (fun k hk => (hown.lt k hk).1)
            have ho : w3.ownsRow (w.heap.size + 2) 5 1 v' (l ++ [UInt8.ofNat (48 + bit)]).length (cellsOf (l ++ [UInt8.ofNat (48 + bit)])) := by rw [cellsOf_snoc, List.length_append, BVH.out]; exact hown'
            clear hown' hgrow hown
            go_wp2
            go_roundw
            case rel => exact ⟨l ++ [UInt8.ofNat (48 + bit)], by simp, by simp; omega, by show _ = _; rw [List.all_append, hall.out]; simp only [List.all_cons, List.all_nil, Bool.and_true, Bool.true_and]; exact BO.out, ho, hb⟩
            case measure => simp [intOf]; omega
      · go_wp2_with (first
          | (at_builtin; refine wpList_append_own _ rfl _ _ 76 rfl (w.heap.size + 2) 5 i0 (.int .u8 0) 1 1 Try.underlying76 hi hz0 hz1 hz2 rfl (by decide) _ _ _ rfl (hown.alloc _) ⟨_, 0, none⟩ 1 1 [.int .u8 48] rfl rfl ?c1 ?c2 ?c3 ?c4 ?c5 ?_))
        case c1 =>
          intro j' u hj'
          match j', hj' with
          | 0, hj' => simp at hj'; subst hj'; simp [Addr.add]
        case c2 => intro u hu; simp at hu; subst hu; rfl
        case c3 => unfold maxLen; omega
        case c4 => omega
        case c5 => simp; omega
        · intro v' w3 hown' hgrow _
          have hb : Below (w.heap.size + 2) X w3 := (hnx.alloc (by omega) _).grown hgrow (by simp; omega) (fun k hk => (hown.lt k hk).1)
          have ho : w3.ownsRow (w.heap.size + 2) 5 1 v' (l ++ [48]).length (cellsOf (l ++ [48])) := by rw [cellsOf_snoc, List.length_append, show (48 : UInt8).toNat = 48 from rfl]; exact hown'
          clear hown' hgrow hown
          go_wp2
          go_roundw
          case rel => exact ⟨l ++ [48], by simp, by simp; omega, by show _ = _; rw [List.all_append, hall.out]; simp only [List.all_cons, List.all_nil, Bool.and_true, Bool.true_and]; exact rfl, ho, hb⟩
          case measure => simp [intOf]; omega
    · have hB1 : 0 < l.length := by omega
      have LT := hid (show l.length = W * H by rw [← T.out]; omega)
      rcases hown.2 with ⟨-, h0⟩ | ⟨g, cap, cur, rfl, -, -, -, -, -, -⟩
      · omega
      · have hcv := run_convert_bytes_back (P := Try.prog) wr 76 9 5 ⟨g, 0, none⟩ cap l Try.underlying76 Try.underlying5 Try.underlying9 (fun j hj => hown.cells (g := g) rfl j _ (by simp [cellsOf, hj]))
        go_wp2
        refine bodyPost_ret (v := .agg #[.int .i64 W, .int .i64 H, .string ⟨l.toArray⟩]) (by simp [results, Try.results14, go_sem, y0, y1, y2]) rfl ?_
        exact ⟨⟨W, H, l, rfl, W1, W2, H1, H2, LT.out, hall.out⟩, (((HB.out.setCell (by simp) _).setCell (by simp) _).setCell (by simp) _).setCell (by simp) _⟩
end Go.Proofs.Ytljfiefobnncaaa

/- How raw numbers come in on a plain seat. -/
namespace Go.Proofs.Ytljfiefobnncaaa
open Go.ChangeShapes Go.WideShapes Go.ChangeAt Go.RowKit Go.Joins

theorem cellsInt : Try.prog.cellsOf 3 = 1 := by kernel_rfl
theorem bytesInt : Try.prog.bytesOf 3 = 8 := by kernel_rfl

set_option maxRecDepth 100000 in
theorem open_raw {H : Type} {enc : TypeId × Value → H} {W : World} {base : Nat} {v : Value} {d : DataW H} {p : List MemPlace} {ts : List TypeId} {ds : List (DataW H)} (hsz : (DataW.weightsEach Try.prog ts ds).all (· ≤ reachBytes) = true) (ht : ts[0]? = some 33) (hd : ds[0]? = some d)
    (hv : Value.okWide Try.prog W .any base 33 v) (h : DataW.Trod enc Try.prog W 0 (fun _ => true) true 33 v d p) :
    ∃ ao len cap, v = .slice ao len cap ∧ RawIs ao len W ∧ len ≤ 140737488355328 := by
  obtain ⟨ao, len, cap, rfl⟩ := okWide_slice Try.underlying33 hv
  refine ⟨ao, len, cap, rfl, ?_⟩
  obtain ⟨fuel, hf⟩ := h
  rcases open_ints Try.underlying33 Try.underlying3 cellsInt hf with ⟨hcs, -⟩ | ⟨ad, len', cap', zs, hcs, -, hl, hm, hz, hxx, hcell, -⟩
  · simp [Value.cells] at hcs
    obtain ⟨-, rfl, -⟩ := hcs
    exact ⟨.inl rfl, by omega⟩
  · simp [Value.cells] at hcs
    obtain ⟨rfl, rfl, rfl⟩ := hcs
    simp only [if_true] at hz
    obtain ⟨rfl, rfl⟩ := Prod.mk.inj hxx
    have hw := sized_slice hsz (j := 0) (t := 33) (e := 3) ht hd Try.underlying33
    rw [bytesInt] at hw
    have : reachBytes = 140737488351232 := by decide
    simp only [lits, List.length_map, List.length_take, List.length_drop, this] at hw
    refine ⟨?_, by omega⟩
    by_cases hp : len = 0
    · exact .inl hp
    · obtain ⟨bk, off, rfl, hc⟩ := ints_at hcell (by omega)
      refine .inr ⟨bk, off, rfl, ?_, fun j hj => ⟨_, hc j (by omega)⟩⟩
      exact World.block_lt_of_cell? W _ (hc 0 (by omega))
end Go.Proofs.Ytljfiefobnncaaa

/- The small functions of outlinekeep: black, before, code, options. -/
namespace Go.Proofs.Ytljfiefobnncaaa
open Go.RowKit

set_option maxHeartbeats 1000000 in
theorem keepBlack_any (W H : Nat) (s : ByteArray) (x y : Int) (w : World) (hw2 : W ≤ 32) (hh2 : H ≤ 32) (hl : s.size = W * H) :
    Calls Try.prog 42 #[.agg #[.int .i64 W, .int .i64 H, .string s], .int .i64 x, .int .i64 y] w fun e w' => e = .returned (.bool (Pm.blackB W H s.data.toList x y)) ∧ w' = w.alloc (.cells #[.int .i64 W, .int .i64 H, .string s] 23) := by
  have HL := Hid.out (p := Hid (s.size = W * H)) hl
  clear hl
  by_cases x0 : 0 ≤ x
  · by_cases y0 : 0 ≤ y
    · by_cases x1 : x < W
      · by_cases y1 : y < H
        · obtain ⟨x, rfl⟩ := Int.eq_ofNat_of_zero_le x0
          obtain ⟨y, rfl⟩ := Int.eq_ofNat_of_zero_le y0
          have hx : x < W := by omega
          have hy : y < H := by omega
          have sp := Pm.span W H y hy
          have ar := Pm.area_nat W H hw2 hh2
          obtain ⟨a, ha⟩ : ∃ a, a = y * W := ⟨_, rfl⟩
          have ea : (y : Int) * (W : Int) = (a : Nat) := by rw [ha]; simp
          have hab : a + x < s.size := by have := HL.out; omega
          have hb4 : a + x ≤ 1024 := by omega
          have E := Pm.blackB_in W H s.data.toList x y hx hy a ha
          have HE : Hid _ := E
          have HA : Hid _ := ha
          clear E ha sp ar
          by_cases q : (s[a + x].toNat : Int) = 49
          · go_enter Try.func42, Try.ntmps42
            go_wp2
            go_ret
            exact ⟨ret_bool (by rw [HE.out, Pm.bitAt_yes s _ hab q]), rfl⟩
          · have b0 : ((s[a + x].toNat : Int) == 49) = false := by simpa using q
            go_enter Try.func42, Try.ntmps42
            go_wp2
            go_ret
            exact ⟨ret_bool (by rw [HE.out, Pm.bitAt_no s _ hab q]), rfl⟩
        · have E := Pm.blackB_out W H s.data.toList x y (by omega)
          have HE : Hid _ := E
          clear E
          go_enter Try.func42, Try.ntmps42
          go_wp2
          go_ret
          exact ⟨ret_bool HE.out.symm, rfl⟩
      · have E := Pm.blackB_out W H s.data.toList x y (by omega)
        have HE : Hid _ := E
        clear E
        go_enter Try.func42, Try.ntmps42
        go_wp2
        go_ret
        exact ⟨ret_bool HE.out.symm, rfl⟩
    · have E := Pm.blackB_out W H s.data.toList x y (by omega)
      have HE : Hid _ := E
      clear E
      go_enter Try.func42, Try.ntmps42
      go_wp2
      go_ret
      exact ⟨ret_bool HE.out.symm, rfl⟩
  · have E := Pm.blackB_out W H s.data.toList x y (by omega)
    have HE : Hid _ := E
    clear E
    go_enter Try.func42, Try.ntmps42
    go_wp2
    go_ret
    exact ⟨ret_bool HE.out.symm, rfl⟩

set_option maxHeartbeats 400000 in
theorem before_any (a b x y : Int) (w : World) :
    Calls Try.prog 18 #[.agg #[.int .i64 a, .int .i64 b], .agg #[.int .i64 x, .int .i64 y]] w fun e w' => e = .returned (.bool (decide (b < y ∨ (b = y ∧ a < x)))) ∧ w' = (w.alloc (.cells #[.int .i64 a, .int .i64 b] 47)).alloc (.cells #[.int .i64 x, .int .i64 y] 47) := by
  by_cases h1 : b < y
  · go_enter Try.func18, Try.ntmps18
    go_wp2
    go_ret
    exact ⟨ret_bool (by simp [h1]), rfl⟩
  · by_cases h2 : b = y
    · by_cases h3 : a < x
      · go_enter Try.func18, Try.ntmps18
        go_wp2
        go_ret
        exact ⟨ret_bool (by simp), rfl⟩
      · go_enter Try.func18, Try.ntmps18
        go_wp2
        go_ret
        exact ⟨ret_bool (by simp [h3]), rfl⟩
    · go_enter Try.func18, Try.ntmps18
      go_wp2
      go_ret
      exact ⟨ret_bool (by simp [h1]), rfl⟩
end Go.Proofs.Ytljfiefobnncaaa

/- outlinekeep: code, isSide. -/
namespace Go.Proofs.Ytljfiefobnncaaa
open Go.RowKit

set_option maxHeartbeats 1000000 in
theorem code_any (t : Qm.Sd) (d4 : t.2.2 < 4) (x0 : 0 ≤ t.1) (x1 : t.1 ≤ 32) (y0 : 0 ≤ t.2.1) (y1 : t.2.1 ≤ 32) (w : World) :
    Calls Try.prog 21 #[.agg #[.int .i64 (Qm.fromP t).1, .int .i64 (Qm.fromP t).2], .agg #[.int .i64 (Qm.en t).1, .int .i64 (Qm.en t).2]] w fun e w' => e = .returned (.int .i64 (Qm.codeS t)) ∧ Below w.heap.size w w' := by
  obtain ⟨x, y, d⟩ := t
  simp only at d4 x0 x1 y0 y1
  match d, d4 with
  | 0, _ =>
    simp only [Qm.fromP, Qm.en, Qm.codeS, Qm.key]
    go_enter Try.func21, Try.ntmps21
    go_wp2
    go_ret
    exact ⟨ret_int (by omega), by go_grown⟩
  | 1, _ =>
    simp only [Qm.fromP, Qm.en, Qm.codeS, Qm.key]
    go_enter Try.func21, Try.ntmps21
    go_wp2
    go_ret
    exact ⟨ret_int (by omega), by go_grown⟩
  | 2, _ =>
    simp only [Qm.fromP, Qm.en, Qm.codeS, Qm.key]
    go_enter Try.func21, Try.ntmps21
    go_wp2
    go_ret
    exact ⟨ret_int (by omega), by go_grown⟩
  | 3, _ =>
    simp only [Qm.fromP, Qm.en, Qm.codeS, Qm.key]
    go_enter Try.func21, Try.ntmps21
    go_wp2
    go_ret
    exact ⟨ret_int (by omega), by go_grown⟩
end Go.Proofs.Ytljfiefobnncaaa

/- outlinekeep: isSide, step. -/
namespace Go.Proofs.Ytljfiefobnncaaa
open Go.RowKit

set_option maxHeartbeats 1000000 in
theorem isSide_yes (W H : Nat) (s : ByteArray) (t : Qm.Sd) (hw2 : W ≤ 32) (hh2 : H ≤ 32) (hl : s.size = W * H) (ht : Qm.isS (Pm.blackB W H s.data.toList) t = true) (w : World) :
    Calls Try.prog 20 #[.agg #[.int .i64 W, .int .i64 H, .string s], .agg #[.int .i64 (Qm.fromP t).1, .int .i64 (Qm.fromP t).2], .agg #[.int .i64 (Qm.en t).1, .int .i64 (Qm.en t).2]] w fun e w' => e = .returned (.bool true) ∧ Below w.heap.size w w' := by
  have d4 := Qm.isS_lt ht
  have hi := Qm.side_in (Qm.pic_of W H s.data.toList hw2 hh2) ht
  have HL := hid hl
  clear hl
  obtain ⟨x, y, d⟩ := t
  simp only at d4 hi
  match d, d4 with
  | 0, _ =>
    simp [Qm.isS, Qm.outQ] at ht
    obtain ⟨b1, b2⟩ := ht
    have B1 := hid b1
    have B2 := hid b2
    clear b1 b2
    simp only [Qm.fromP, Qm.en]
    go_enter Try.func20, Try.ntmps20
    go_wp2_with fail
    refine (keepBlack_any W H s _ _ _ hw2 hh2 HL.out).mono ?_
    rintro e w1 ⟨rfl, e1⟩
    have Bw := hid (show Below w.heap.size w w1 by rw [e1]; go_grown)
    have Z := Bw.out.size
    obtain ⟨hc, hf⟩ := bcell (show Below _ _ w1 by rw [e1]; exact (Below.refl _ _).alloc (Nat.le_refl _) _)
    clear e1
    rw [show Pm.blackB W H s.data.toList (x) (y) = true from B1.out]
    go_wp2_with fail
    refine (keepBlack_any W H s _ _ _ hw2 hh2 HL.out).mono ?_
    rintro e w2 ⟨rfl, e2⟩
    have Bw2 := hid (show Below w.heap.size w w2 by rw [e2]; exact Bw.out.alloc Z _)
    clear e2 hc hf
    rw [show Pm.blackB W H s.data.toList (x - 1) (y) = false from B2.out]
    go_wp2
    go_ret
    exact ⟨rfl, Bw2.out⟩
  | 1, _ =>
    simp [Qm.isS, Qm.outQ] at ht
    obtain ⟨b1, b2⟩ := ht
    have B1 := hid b1
    have B2 := hid b2
    clear b1 b2
    simp only [Qm.fromP, Qm.en]
    go_enter Try.func20, Try.ntmps20
    go_wp2_with fail
    refine (keepBlack_any W H s _ _ _ hw2 hh2 HL.out).mono ?_
    rintro e w1 ⟨rfl, e1⟩
    have Bw := hid (show Below w.heap.size w w1 by rw [e1]; go_grown)
    have Z := Bw.out.size
    obtain ⟨hc, hf⟩ := bcell (show Below _ _ w1 by rw [e1]; exact (Below.refl _ _).alloc (Nat.le_refl _) _)
    clear e1
    rw [show Pm.blackB W H s.data.toList (x) (y - 1) = true from B1.out]
    go_wp2_with fail
    refine (keepBlack_any W H s _ _ _ hw2 hh2 HL.out).mono ?_
    rintro e w2 ⟨rfl, e2⟩
    have Bw2 := hid (show Below w.heap.size w w2 by rw [e2]; exact Bw.out.alloc Z _)
    clear e2 hc hf
    rw [show Pm.blackB W H s.data.toList (x) (y) = false from B2.out]
    go_wp2
    go_ret
    exact ⟨rfl, Bw2.out⟩
  | 2, _ =>
    simp [Qm.isS, Qm.outQ] at ht
    obtain ⟨b1, b2⟩ := ht
    have B1 := hid b1
    have B2 := hid b2
    clear b1 b2
    simp only [Qm.fromP, Qm.en]
    go_enter Try.func20, Try.ntmps20
    go_wp2_with fail
    refine (keepBlack_any W H s _ _ _ hw2 hh2 HL.out).mono ?_
    rintro e w1 ⟨rfl, e1⟩
    have Bw := hid (show Below w.heap.size w w1 by rw [e1]; go_grown)
    have Z := Bw.out.size
    obtain ⟨hc, hf⟩ := bcell (show Below _ _ w1 by rw [e1]; exact (Below.refl _ _).alloc (Nat.le_refl _) _)
    clear e1
    rw [show Pm.blackB W H s.data.toList (x - 1) (y - 1) = true from B1.out]
    go_wp2_with fail
    refine (keepBlack_any W H s _ _ _ hw2 hh2 HL.out).mono ?_
    rintro e w2 ⟨rfl, e2⟩
    have Bw2 := hid (show Below w.heap.size w w2 by rw [e2]; exact Bw.out.alloc Z _)
    clear e2 hc hf
    rw [show Pm.blackB W H s.data.toList (x) (y - 1) = false from B2.out]
    go_wp2
    go_ret
    exact ⟨rfl, Bw2.out⟩
  | 3, _ =>
    simp [Qm.isS, Qm.outQ] at ht
    obtain ⟨b1, b2⟩ := ht
    have B1 := hid b1
    have B2 := hid b2
    clear b1 b2
    simp only [Qm.fromP, Qm.en]
    go_enter Try.func20, Try.ntmps20
    go_wp2_with fail
    refine (keepBlack_any W H s _ _ _ hw2 hh2 HL.out).mono ?_
    rintro e w1 ⟨rfl, e1⟩
    have Bw := hid (show Below w.heap.size w w1 by rw [e1]; go_grown)
    have Z := Bw.out.size
    obtain ⟨hc, hf⟩ := bcell (show Below _ _ w1 by rw [e1]; exact (Below.refl _ _).alloc (Nat.le_refl _) _)
    clear e1
    rw [show Pm.blackB W H s.data.toList (x - 1) (y) = true from B1.out]
    go_wp2_with fail
    refine (keepBlack_any W H s _ _ _ hw2 hh2 HL.out).mono ?_
    rintro e w2 ⟨rfl, e2⟩
    have Bw2 := hid (show Below w.heap.size w w2 by rw [e2]; exact Bw.out.alloc Z _)
    clear e2 hc hf
    rw [show Pm.blackB W H s.data.toList (x - 1) (y - 1) = false from B2.out]
    go_wp2
    go_ret
    exact ⟨rfl, Bw2.out⟩
end Go.Proofs.Ytljfiefobnncaaa

/- outlinekeep: step, twice. -/
namespace Go.Proofs.Ytljfiefobnncaaa
open Go.RowKit

set_option maxHeartbeats 1000000 in
theorem step_big (g n cap i : Nat) (tw : Int) (l : List (Int × Int)) (hn : n = l.length) (hi : i < n) (hn2 : n ≤ 140737488355328) (w : World) (hP : PtsAt g l w) :
    Calls Try.prog 19 #[.agg #[.slice (some ⟨g, 0, none⟩) n cap, .int .i64 tw], .int .i64 i] w fun e w' => e = .returned (.tuple #[.agg #[.int .i64 (l.getD i (0, 0)).1, .int .i64 (l.getD i (0, 0)).2], .agg #[.int .i64 (l.getD ((i + 1) % l.length) (0, 0)).1, .int .i64 (l.getD ((i + 1) % l.length) (0, 0)).2]]) ∧ Below w.heap.size w w' := by
  have hg := hP.1
  have g1 : g < w.heap.size + 1 := by omega
  have g2 : g < w.heap.size + 1 + 1 := by omega
  have g3 : ¬ g = w.heap.size := by omega
  have g4 : ¬ g = w.heap.size + 1 := by omega
  have g5 : ¬ g = w.heap.size + 1 + 1 := by omega
  obtain ⟨a0, a1⟩ := hP.2 i (by omega)
  obtain ⟨z0, z1⟩ := hP.2 0 (by omega)
  obtain ⟨⟨pa, pb⟩, hpp⟩ : ∃ p, l.getD i (0, 0) = p := ⟨_, rfl⟩
  obtain ⟨⟨za, zb⟩, hzz⟩ : ∃ p, l.getD 0 (0, 0) = p := ⟨_, rfl⟩
  rw [hpp] at a0 a1 ⊢
  rw [hzz] at z0 z1
  by_cases h1 : i + 1 < n
  · obtain ⟨c0, c1⟩ := hP.2 (i + 1) (by omega)
    rw [Nat.mod_eq_of_lt (by omega)]
    obtain ⟨⟨qa, qb⟩, hqq⟩ : ∃ p, l.getD (i + 1) (0, 0) = p := ⟨_, rfl⟩
    rw [hqq] at c0 c1 ⊢
    have h1' : (i : Int) + 1 < n := by omega
    have h2' : (0 : Int) ≤ (i : Int) + 1 := by omega
    have h3' : IntKind.i64.wrap ((i : Int) + 1) = (i : Int) + 1 := by rw [IntKind.wrap_i64]; omega
    have h4' : ((i : Int) + 1).toNat = i + 1 := by omega
    clear hP hpp hzz hqq hn z0 z1
    dsimp only at a0 a1 c0 c1 ⊢
    go_enter Try.func19, Try.ntmps19
    go_wp2
    go_region_held3 (fun w' => w'.cell? ⟨w.heap.size + 1 + 1 + 1, 0, none⟩ = some (.int .i64 pa) ∧ w'.cell? ⟨w.heap.size + 1 + 1 + 1, 1, none⟩ = some (.int .i64 pb) ∧ w'.cell? ⟨w.heap.size, 0, none⟩ = some (.slice (some ⟨g, 0, none⟩) n cap) ∧ w'.cell? ⟨g, (i + 1) * 2, none⟩ = some (.int .i64 qa) ∧ w'.cell? ⟨g, (i + 1) * 2 + 1, none⟩ = some (.int .i64 qb))
      (first | (simp [go_sem, *]; done) | (go_keep))
      (fail)
    all_goals go_wp2
    all_goals (refine bodyPost_ret (v := .tuple #[.agg #[.int .i64 pa, .int .i64 pb], .agg #[.int .i64 qa, .int .i64 qb]]) (by simp [results, Try.results19, go_sem]) rfl ?_)
    all_goals exact ⟨rfl, by go_grown⟩
  · rw [show (i + 1) % l.length = 0 from by rw [show i + 1 = l.length from by omega, Nat.mod_self], hzz]
    have h1' : ¬ (i : Int) + 1 < n := by omega
    have h2' : (0 : Int) < n := by omega
    have h3' : 0 < n := by omega
    clear hP hpp hzz hn
    dsimp only at a0 a1 z0 z1 ⊢
    go_enter Try.func19, Try.ntmps19
    go_wp2
    go_region_held3 (fun w' => w'.cell? ⟨w.heap.size + 1 + 1 + 1, 0, none⟩ = some (.int .i64 pa) ∧ w'.cell? ⟨w.heap.size + 1 + 1 + 1, 1, none⟩ = some (.int .i64 pb) ∧ w'.cell? ⟨w.heap.size, 0, none⟩ = some (.slice (some ⟨g, 0, none⟩) n cap) ∧ w'.cell? ⟨g, 0, none⟩ = some (.int .i64 za) ∧ w'.cell? ⟨g, 1, none⟩ = some (.int .i64 zb))
      (first | (simp [go_sem, *]; done) | (go_keep))
      (fail)
    all_goals go_wp2
    all_goals (refine bodyPost_ret (v := .tuple #[.agg #[.int .i64 pa, .int .i64 pb], .agg #[.int .i64 za, .int .i64 zb]]) (by simp [results, Try.results19, go_sem]) rfl ?_)
    all_goals exact ⟨rfl, by go_grown⟩

theorem step_any (g n cap i : Nat) (tw : Int) (l : List (Int × Int)) (hn : n = l.length) (hi : i < n) (hn2 : n ≤ 4356) (w : World) (hP : PtsAt g l w) :
    Calls Try.prog 19 #[.agg #[.slice (some ⟨g, 0, none⟩) n cap, .int .i64 tw], .int .i64 i] w fun e w' => e = .returned (.tuple #[.agg #[.int .i64 (l.getD i (0, 0)).1, .int .i64 (l.getD i (0, 0)).2], .agg #[.int .i64 (l.getD ((i + 1) % l.length) (0, 0)).1, .int .i64 (l.getD ((i + 1) % l.length) (0, 0)).2]]) ∧ Below w.heap.size w w' :=
  step_big g n cap i tw l hn hi (by omega) w hP

end Go.Proofs.Ytljfiefobnncaaa

/- outlinekeep: twice. -/
namespace Go.Proofs.Ytljfiefobnncaaa
open Go.RowKit

set_option maxHeartbeats 1000000 in
theorem keepTwice_big (g n cap : Nat) (tw : Int) (l : List (Int × Int)) (hn : n = l.length) (h0 : 0 < n) (hs : Qm.Small l) (hn2 : n ≤ 140737488355328) (w : World) (hP : PtsAt g l w) :
    Calls Try.prog 17 #[.agg #[.slice (some ⟨g, 0, none⟩) n cap, .int .i64 tw]] w fun e w' => e = .returned (.int .i64 (Qm.twiceOf l)) ∧ Below w.heap.size w w' := by
  have HP := hid hP
  have hg := hP.1
  have HN := hid hn
  clear hP hn
  go_enter Try.func17, Try.ntmps17
  go_wp2_with fail
  go_loopw [3, 4] (fun sm i wr => ∃ k : Nat, k ≤ n ∧ i = .int .i64 k ∧ sm = .int .i64 (Qm.fsum l k) ∧ wr.cell? ⟨w.heap.size, 0, none⟩ = some (.slice (some ⟨g, 0, none⟩) n cap) ∧ wr.cell? ⟨w.heap.size, 1, none⟩ = some (.int .i64 tw) ∧ Below w.heap.size w wr ∧ w.heap.size < wr.heap.size) (fun _ i _ => n - (intOf i).toNat)
  case atStart => exact ⟨0, by omega, rfl, rfl, by simp, by simp, by go_grown, by simp⟩
  case round =>
    obtain ⟨k, hk, rfl, rfl, b0, b1, hb, hz⟩ := hrel
    have HB := hid hb
    have ts := Qm.fsum_small hs k
    by_cases hlt : k < n
    · have hlt' : (k : Int) < (n : Int) := by omega
      have sp := hs.at k
      have sq := hs.at ((k + 1) % l.length)
      have m1 := Qm.mul_small sp.2.2.1 sp.2.2.2 sq.1 sq.2.1
      have m2 := Qm.mul_small sp.1 sp.2.1 sq.2.2.1 sq.2.2.2
      have ST := hid (fun W' (hW : Below wr.heap.size wr W') => step_big g n cap k tw l HN.out hlt hn2 W' ((HP.out.on HB.out hg).on hW (by have := HB.out.size; omega)))
      have E2 : Hid (Qm.fsum l (k + 1) = Qm.fsum l k + ((l.getD k (0, 0)).2 * (l.getD ((k + 1) % l.length) (0, 0)).1 - (l.getD k (0, 0)).1 * (l.getD ((k + 1) % l.length) (0, 0)).2)) := rfl
      obtain ⟨⟨pa, pb⟩, hpp⟩ : ∃ p, l.getD k (0, 0) = p := ⟨_, rfl⟩
      obtain ⟨⟨qa, qb⟩, hqq⟩ : ∃ p, l.getD ((k + 1) % l.length) (0, 0) = p := ⟨_, rfl⟩
      rw [hpp] at m1 m2 sp E2 ST
      rw [hqq] at m1 m2 sq E2 ST
      dsimp only at m1 m2 sp sq E2 ST
      clear hpp hqq hb
      go_wp2_with fail
      refine (ST.out _ (by go_grown)).mono ?_
      rintro e w2 ⟨rfl, hb2⟩
      have B2 := hid (show Below w.heap.size w w2 from HB.out.trans (hb2.mono (by have := HB.out.size; omega)))
      obtain ⟨hc, hf⟩ := bcell hb2
      have z2 := hb2.size
      have e0 := (hc w.heap.size 0 hz).trans b0
      have e1 := (hc w.heap.size 1 hz).trans b1
      clear hb2 hc hf b0 b1
      obtain ⟨u, hu⟩ : ∃ u, pb * qa = u := ⟨_, rfl⟩
      obtain ⟨v, hv⟩ : ∃ v, pa * qb = v := ⟨_, rfl⟩
      rw [hu] at m1 E2
      rw [hv] at m2 E2
      go_wp2
      go_roundw
      case rel =>
        have hz2 : w.heap.size < w2.heap.size := by omega
        refine ⟨k + 1, by omega, by go_num, by rw [E2.out]; go_num, ?_, ?_, ?_, ?_⟩
        · first | exact e0 | simp [go_sem, e0, hz2]
        · first | exact e1 | simp [go_sem, e1, hz2]
        · first | exact B2.out | exact (B2.out.alloc (by omega) _).alloc (by simp; omega) _
        · first | exact hz2 | (simp; omega)
      case measure => simp [intOf]; omega
    · have hlt' : ¬ (k : Int) < (n : Int) := by omega
      have hkn : k = n := by omega
      subst hkn
      go_wp2
      go_ret
      exact ⟨ret_int (by rw [Qm.twiceOf_fsum, ← HN.out]), HB.out⟩

theorem keepTwice_any (g n cap : Nat) (tw : Int) (l : List (Int × Int)) (hn : n = l.length) (h0 : 0 < n) (hs : Qm.Small l) (hn2 : n ≤ 4356) (w : World) (hP : PtsAt g l w) :
    Calls Try.prog 17 #[.agg #[.slice (some ⟨g, 0, none⟩) n cap, .int .i64 tw]] w fun e w' => e = .returned (.int .i64 (Qm.twiceOf l)) ∧ Below w.heap.size w w' :=
  keepTwice_big g n cap tw l hn h0 hs (by omega) w hP

end Go.Proofs.Ytljfiefobnncaaa

/- outlinekeep: options. -/
namespace Go.Proofs.Ytljfiefobnncaaa
open Go.RowKit

set_option maxHeartbeats 400000 in
theorem options_any (p : Int) (draws : ByteArray) (p1 : -9223372036854775808 ≤ p) (p2 : p ≤ 9223372036854775807) (w : World) :
    Calls Try.prog 16 #[.int .i64 p, .string draws] w fun e w' => (∃ r : Nat, e = .returned (.agg #[.int .i64 r, .string draws, .int .i64 0]) ∧ r ≤ 3) ∧ Below w.heap.size w w' := by
  go_enter Try.func16, Try.ntmps16
  go_wp2_with fail
  refine (pick_any p 4 p1 p2 (by omega) (by omega) _).mono ?_
  rintro e w1 ⟨⟨r, rfl, hr⟩, rfl⟩
  go_wp2
  refine bodyPost_ret (v := .agg #[.int .i64 r, .string draws, .int .i64 0]) (by simp [results, Try.results16, go_sem]) rfl ?_
  exact ⟨⟨r, rfl, by omega⟩, by go_grown⟩
end Go.Proofs.Ytljfiefobnncaaa

/- outlinekeep: works. -/
namespace Go.Proofs.Ytljfiefobnncaaa
open Go.RowKit

theorem sides_one : Qm.sidesTo (Pm.blackB 1 1 [49]) 1 (1 * 1) = [(0, 0, 0), (0, 1, 1), (1, 1, 2), (1, 0, 3)] := by decide
/-- Of one black pixel there is one cycle. -/
theorem res_one : Qm.Res (fB 1 1 ⟨#[49]⟩ 0 ⟨#[]⟩) (bB 1 1 ⟨#[49]⟩) Qm.key [((0, 0, 0), 4)] := by
  refine ⟨?_, by simp, ?_⟩
  · intro c hc
    simp only [List.mem_singleton] at hc
    subst hc
    refine ⟨⟨by decide, by decide, by decide, ?_⟩, ?_⟩
    · have : ∀ (i j : Fin 4), i.val < j.val → Qm.it (fB 1 1 ⟨#[49]⟩ 0 ⟨#[]⟩) i.val (0, 0, 0) ≠ Qm.it (fB 1 1 ⟨#[49]⟩ 0 ⟨#[]⟩) j.val (0, 0, 0) := by decide
      intro i j hij hj
      exact this ⟨i, by omega⟩ ⟨j, hj⟩ hij
    · have : ∀ (i : Fin 4), 0 < i.val → Qm.key (0, 0, 0) < Qm.key (Qm.it (fB 1 1 ⟨#[49]⟩ 0 ⟨#[]⟩) i.val (0, 0, 0)) := by decide
      intro i h0 hi
      exact this ⟨i, hi⟩ h0
  · intro t ht
    have h1 := (Qm.all_sidesTo (Qm.pic_of 1 1 [49] (by omega) (by omega)) t).2 ht
    rw [sides_one] at h1
    simp only [List.mem_cons, List.mem_nil_iff, or_false] at h1
    rcases h1 with rfl | rfl | rfl | rfl
    · exact ⟨_, List.mem_singleton.2 rfl, 0, by decide, by decide⟩
    · exact ⟨_, List.mem_singleton.2 rfl, 1, by decide, by decide⟩
    · exact ⟨_, List.mem_singleton.2 rfl, 2, by decide, by decide⟩
    · exact ⟨_, List.mem_singleton.2 rfl, 3, by decide, by decide⟩

/-- What one sees of the answer for one black pixel. -/
theorem one_shown {vl : Value} {w w' : World} (h : FindOut 1 1 ⟨#[49]⟩ 0 ⟨#[]⟩ w vl w') : Below w.heap.size w w' ∧ ∃ gl cap g c, vl = .slice (some ⟨gl, 0, none⟩) 1 cap ∧ gl < w'.heap.size ∧ g < w'.heap.size ∧ w'.cell? ⟨gl, 0, none⟩ = some (.slice (some ⟨g, 0, none⟩) 4 c) ∧ w'.cell? ⟨gl, 1, none⟩ = some (.int .i64 2)
    ∧ w'.cell? ⟨g, 0, none⟩ = some (.int .i64 0) ∧ w'.cell? ⟨g, 1, none⟩ = some (.int .i64 0) ∧ w'.cell? ⟨g, 2, none⟩ = some (.int .i64 0) ∧ w'.cell? ⟨g, 3, none⟩ = some (.int .i64 1) ∧ w'.cell? ⟨g, 4, none⟩ = some (.int .i64 1) ∧ w'.cell? ⟨g, 5, none⟩ = some (.int .i64 1) ∧ w'.cell? ⟨g, 6, none⟩ = some (.int .i64 1) ∧ w'.cell? ⟨g, 7, none⟩ = some (.int .i64 0) := by
  obtain ⟨L, h1, h2, h3, _⟩ := h
  refine ⟨h3, ?_⟩
  have e := h1.unique res_one
  obtain ⟨v, rfl⟩ : ∃ v, L = [(v, ((0, 0, 0), 4))] := by
    match L, e with
    | [], e => simp at e
    | [(v, c)], e => simp at e; subst e; exact ⟨v, rfl⟩
    | _ :: _ :: _, e => simp at e
  have sh := h2.shown (fun p hp => by simp at hp; subst hp; simp)
  obtain ⟨ao, cap, rfl, hr⟩ := sh.row
  obtain ⟨gl, rfl, hgl, hc⟩ := hr.resolve_left (by simp)
  obtain ⟨g, c, hv, _, hg, hp⟩ := sh.pts _ (List.mem_singleton.2 rfl)
  simp only at hv hp
  subst hv
  have s0 := shpV_at (fB 1 1 ⟨#[49]⟩ 0 ⟨#[]⟩) [((Value.slice (some ⟨g, 0, none⟩) 4 c), ((0, 0, 0), 4))] 0 (by simp)
  have c0 := hc _ _ s0.1
  have c1 := hc _ _ s0.2
  have ep : Qm.ptsOf (fB 1 1 ⟨#[49]⟩ 0 ⟨#[]⟩) ((0, 0, 0), 4) = [(0, 0), (0, 1), (1, 1), (1, 0)] := by decide
  have et : Qm.twiceOf (Qm.ptsOf (fB 1 1 ⟨#[49]⟩ 0 ⟨#[]⟩) ((0, 0, 0), 4)) = 2 := by decide
  simp only [List.getElem_cons_zero, et] at c0 c1
  rw [ep] at hp
  have p0 := hp 0 (by simp)
  have p1 := hp 1 (by simp)
  have p2 := hp 2 (by simp)
  have p3 := hp 3 (by simp)
  exact ⟨gl, cap, g, c, rfl, hgl, hg, c0, c1, p0.1, p0.2, p1.1, p1.2, p2.1, p2.2, p3.1, p3.2⟩

set_option maxRecDepth 4000 in
set_option maxHeartbeats 1000000 in
theorem works_any (w : World) :
    Calls Try.prog 13 #[] w fun e w' => e = .returned (.bool true) ∧ Below w.heap.size w w' := by
  go_enter Try.func13, Try.ntmps13
  go_wp2_with fail
  refine (cycles_yes 1 1 ⟨#[49]⟩ 0 ⟨#[]⟩ 0 _ (by decide) (by omega) (by omega) rfl (by omega)).mono ?_
  rintro e w1 ⟨vl, rfl, ho⟩
  obtain ⟨hb, gl, cap, g, c, rfl, hgl, hg, c0, c1, p0, p1, p2, p3, p4, p5, p6, p7⟩ := one_shown ho
  have B1 := hid (show Below w.heap.size w w1 from Below.trans (b := _) (by go_grown) (hb.mono (by simp)))
  clear hb ho
  go_wp2
  go_ret
  exact ⟨rfl, B1.out⟩
end Go.Proofs.Ytljfiefobnncaaa

/- outlinekeep: sides. -/
namespace Go.Proofs.Ytljfiefobnncaaa
open Go.RowKit

/-- A bitmap lies in the block b. -/
def Bmp (b W H : Nat) (s : ByteArray) (w : World) : Prop := b < w.heap.size ∧ w.cell? ⟨b, 0, none⟩ = some (.int .i64 W) ∧ w.cell? ⟨b, 1, none⟩ = some (.int .i64 H) ∧ w.cell? ⟨b, 2, none⟩ = some (.string s)
theorem Bmp.on {b W H : Nat} {s : ByteArray} {w w' : World} {B : Nat} (h : Bmp b W H s w) (hb : Below B w w') (hg : b < B) : Bmp b W H s w' :=
  ⟨Nat.lt_of_lt_of_le h.1 hb.size, (hb.cell (p := ⟨b, 0, none⟩) hg).trans h.2.1, (hb.cell (p := ⟨b, 1, none⟩) hg).trans h.2.2.1, (hb.cell (p := ⟨b, 2, none⟩) hg).trans h.2.2.2⟩

set_option maxRecDepth 4000 in
set_option maxHeartbeats 2000000 in
theorem keepSides_any (W H : Nat) (s : ByteArray) (w : World) (hw2 : W ≤ 32) (hh2 : H ≤ 32) (hl : s.size = W * H) :
    Calls Try.prog 22 #[.agg #[.int .i64 W, .int .i64 H, .string s]] w fun e w' => e = .returned (.int .i64 (Qm.bx (W + 1) (H + 1) (Qm.cS (Pm.blackB W H s.data.toList)))) ∧ Below w.heap.size w w' := by
  have HL := hid hl
  clear hl
  obtain ⟨bl, hbl⟩ : ∃ bl, bl = Pm.blackB W H s.data.toList := ⟨_, rfl⟩
  have KB := hid (fun (x y : Int) (w : World) => keepBlack_any W H s x y w hw2 hh2 HL.out)
  rw [← hbl] at KB ⊢
  clear hbl
  go_enter Try.func22, Try.ntmps22
  go_wp2_with fail
  go_loopw [3, 4] (fun nv yv wr => ∃ y : Nat, y ≤ H + 1 ∧ yv = .int .i64 y ∧ nv = .int .i64 (Qm.bx (W + 1) y (Qm.cS bl)) ∧ Bmp w.heap.size W H s wr ∧ Below w.heap.size w wr) (fun _ y _ => H + 1 - (intOf y).toNat)
  case atStart => exact ⟨0, by omega, rfl, rfl, ⟨by simp, by simp, by simp, by simp⟩, by go_grown⟩
  case round =>
    obtain ⟨y, hy, rfl, rfl, hm, hb⟩ := hrel
    have HM := hid hm
    have HB := hid hb
    clear hb
    have bn := Qm.bx_cS bl (W + 1) y (by omega) (by omega)
    by_cases hlt : y ≤ H
    · obtain ⟨hz, b0, b1, b2⟩ := hm
      have hlt' : (y : Int) ≤ (H : Int) := by omega
      go_wp2_with fail
      clear b0 b1 b2
      go_loopw [3, 5] (fun nv xv wr => ∃ x : Nat, x ≤ W + 1 ∧ xv = .int .i64 x ∧ nv = .int .i64 (Qm.bx (W + 1) y (Qm.cS bl) + Qm.sN x (fun x => Qm.cS bl x y)) ∧ Bmp w.heap.size W H s wr ∧ Below w.heap.size w wr) (fun _ x _ => W + 1 - (intOf x).toNat)
      case atStart => exact ⟨0, by omega, rfl, by simp [Qm.sN], HM.out, HB.out⟩
      case round =>
        clear HM HB
        obtain ⟨x, hx, rfl, rfl, hm, hb⟩ := hrel
        have HM := hid hm
        have HB := hid hb
        clear hb
        have rn := Qm.row_cS bl x y
        by_cases hlx : x ≤ W
        · obtain ⟨hz, b0, b1, b2⟩ := hm
          have hlx' : (x : Int) ≤ (W : Int) := by omega
          have EC := hid (show Qm.sN (x + 1) (fun x => Qm.cS bl x y) = Qm.sN x (fun x => Qm.cS bl x y) + ((if bl x y = bl ((x : Int) - 1) y then 0 else 1) + (if bl x y = bl x ((y : Int) - 1) then 0 else 1)) from rfl)
          obtain ⟨n0, hn0⟩ : ∃ n0, n0 = Qm.sN x (fun x => Qm.cS bl x y) := ⟨_, rfl⟩
          obtain ⟨m0, hm0⟩ : ∃ m0, m0 = Qm.bx (W + 1) y (Qm.cS bl) := ⟨_, rfl⟩
          rw [← hn0] at rn EC ⊢
          rw [← hm0] at bn ⊢
          have HN0 := hid hn0
          have HM0 := hid hm0
          clear hn0 hm0
          go_wp2_with fail
          refine (KB.out _ _ _).mono ?_
          rintro e w1 ⟨rfl, e1⟩
          have B1 := hid (show Below w.heap.size w w1 by rw [e1]; exact HB.out.alloc HB.out.size _)
          have M1 := HM.out.on (w' := w1) (B := wr.heap.size) (by rw [e1]; exact (Below.refl _ _).alloc (Nat.le_refl _) _) hz
          clear e1 b0 b1 b2 hz
          obtain ⟨hz, b0, b1, b2⟩ := M1
          go_wp2_with fail
          refine (KB.out _ _ _).mono ?_
          rintro e w2 ⟨rfl, e1⟩
          have B2 := hid (show Below w.heap.size w w2 by rw [e1]; exact B1.out.alloc B1.out.size _)
          have M2 := Bmp.on (w' := w2) (B := w1.heap.size) ⟨hz, b0, b1, b2⟩ (by rw [e1]; exact (Below.refl _ _).alloc (Nat.le_refl _) _) hz
          clear e1 b0 b1 b2 hz
          obtain ⟨hz, b0, b1, b2⟩ := M2
          go_wp2_with fail
          refine (KB.out _ _ _).mono ?_
          rintro e w3 ⟨rfl, e1⟩
          have B3 := hid (show Below w.heap.size w w3 by rw [e1]; exact B2.out.alloc B2.out.size _)
          have M3 := hid (Bmp.on (w' := w3) (B := w2.heap.size) ⟨hz, b0, b1, b2⟩ (by rw [e1]; exact (Below.refl _ _).alloc (Nat.le_refl _) _) hz)
          clear e1 b0 b1 b2 hz
          obtain ⟨u, hu⟩ : ∃ u, u = bl x y := ⟨_, rfl⟩
          obtain ⟨v, hv⟩ : ∃ v, v = bl ((x : Int) - 1) y := ⟨_, rfl⟩
          obtain ⟨t, ht⟩ : ∃ t, t = bl x ((y : Int) - 1) := ⟨_, rfl⟩
          rw [← hu, ← hv, ← ht] at EC
          rw [← hu, ← hv, ← ht]
          clear hu hv ht
          cases u <;> cases v <;> cases t
          all_goals go_wp2
          all_goals go_roundw
          all_goals first
            | exact ⟨x + 1, by omega, by go_num, by have := EC.out; simp at this; rw [this]; first | done | go_num, M3.out, B3.out⟩
            | (simp [intOf]; omega)
        · have hlx' : ¬ (x : Int) ≤ (W : Int) := by omega
          have hxe : x = W + 1 := by omega
          obtain ⟨hz, b0, b1, b2⟩ := hm
          go_wp2
          go_roundw
          case rel => exact ⟨y + 1, by omega, by go_num, by rw [hxe]; rfl, HM.out, HB.out⟩
          case measure => simp [intOf]; omega
    · have hlt' : ¬ (y : Int) ≤ (H : Int) := by omega
      have hye : y = H + 1 := by omega
      obtain ⟨hz, b0, b1, b2⟩ := hm
      go_wp2
      go_ret
      exact ⟨ret_int (by first | rfl | rw [hye]), HB.out⟩
end Go.Proofs.Ytljfiefobnncaaa
