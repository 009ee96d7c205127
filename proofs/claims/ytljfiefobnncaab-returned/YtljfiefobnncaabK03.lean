import Derived.Test.YtljfiefobnncaabK02
import Derived.Test.YtljfiefobnncaabK01
import Derived.SizedLaws

/- built: a bitmap out of raw numbers. -/
namespace Go.Proofs.Ytljfiefobnncaab
open Go.RowKit

theorem and_one_i64 (x : Int) : ∃ b : Nat, b ≤ 1 ∧ bits BinOp.and IntKind.i64 x 1 = (b : Int) := by
  refine ⟨(BitVec.ofInt 64 x &&& BitVec.ofInt 64 1).toNat, ?_, ?_⟩
  · rw [BitVec.toNat_and, show (BitVec.ofInt 64 1).toNat = 1 from rfl, Nat.and_one_is_mod]; omega
  · show IntKind.i64.wrap ((BitVec.ofInt 64 x &&& BitVec.ofInt 64 1).toNat : Int) = _
    rw [BitVec.toNat_and, show (BitVec.ofInt 64 1).toNat = 1 from rfl, Nat.and_one_is_mod, IntKind.wrap_i64]; omega

/-- What a slice of raw numbers gives: nothing, or a number at each place below its length. -/
def RawIs (ao : Option Addr) (len : Nat) (w : World) : Prop :=
  len = 0 ∨ ∃ b off, ao = some ⟨b, off, none⟩ ∧ b < w.heap.size ∧ ∀ j, j < len → ∃ z, w.cell? ⟨b, off + j, none⟩ = some (.int .i64 z)

set_option maxRecDepth 4000 in
set_option maxHeartbeats 2000000 in
theorem built_core (ao : Option Addr) (len cap : Nat) (a h : Int) (w : World) (hraw : RawIs ao len w) (hlen : len ≤ 140737488355328) (a1 : -9223372036854775808 ≤ a) (a2 : a ≤ 9223372036854775807) (h1 : -9223372036854775808 ≤ h) (h2 : h ≤ 9223372036854775807) :
    Calls Try.prog 5 #[.slice ao len cap, .int .i64 a, .int .i64 h, .int .i64 32] w fun e w' => (∃ (W H : Nat) (l : List UInt8), e = .returned (.agg #[.int .i64 W, .int .i64 H, .string ⟨l.toArray⟩]) ∧ 1 ≤ W ∧ W ≤ 32 ∧ 1 ≤ H ∧ H ≤ 32 ∧ l.length = W * H ∧ l.all Pm.okPix = true) ∧ Below w.heap.size w w' := by
  obtain ⟨i0, hi, hz0, hz1, hz2⟩ := info_parts infoByte
  go_enter Try.func5, Try.ntmps5
  go_wp2_with fail
  refine (pick_any a 32 a1 a2 (by omega) (by omega) _).mono ?_
  rintro e w1 ⟨⟨r1, rfl, hr1⟩, rfl⟩
  go_wp2_with fail
  refine (pick_any h 32 h1 h2 (by omega) (by omega) _).mono ?_
  rintro e w1 ⟨⟨r2, rfl, hr2⟩, rfl⟩
  go_wp2
  have hraw2 := hid hraw
  clear hraw
  obtain ⟨W, hW⟩ : ∃ W, W = 1 + r1 := ⟨_, rfl⟩
  obtain ⟨H, hH⟩ : ∃ H, H = 1 + r2 := ⟨_, rfl⟩
  have eW : (1 : Int) + (r1 : Int) = (W : Nat) := by omega
  have eH : (1 : Int) + (r2 : Int) = (H : Nat) := by omega
  have W1 : 1 ≤ W := by omega
  have W2 : W ≤ 32 := by omega
  have H1 : 1 ≤ H := by omega
  have H2 : H ≤ 32 := by omega
  simp only [eW, eH]
  clear eW eH hW hH hr1 hr2
  obtain ⟨t, ht⟩ : ∃ t, t = W * H := ⟨_, rfl⟩
  have et : (W : Int) * (H : Int) = (t : Nat) := by rw [ht]; simp
  have t1 : 1 ≤ t := by rw [ht]; exact Nat.mul_le_mul W1 H1
  have t2 : t ≤ 1024 := by rw [ht]; exact Nat.mul_le_mul W2 H2
  have T := hid ht
  clear ht
  obtain ⟨X, hX⟩ : ∃ X, X = (w.alloc (.cells #[.int .i64 0, .int .i64 0, .string ⟨#[]⟩] 25)).alloc (.cells #[.int .i64 W, .int .i64 H, .string ⟨#[]⟩] 25) := ⟨_, rfl⟩
  have Xs : X.heap.size = w.heap.size + 2 := by rw [hX]; simp
  have Xb : Below w.heap.size w X := by rw [hX]; exact ((Below.refl _ _).alloc (Nat.le_refl _) _).alloc (by simp) _
  have Y := Box3.new w (.int .i64 0) (.int .i64 0) (.string ⟨#[]⟩) 25 |>.alloc (.cells #[.int .i64 W, .int .i64 H, .string ⟨#[]⟩] 25)
  have Z := Box3.new (w.alloc (.cells #[.int .i64 0, .int .i64 0, .string ⟨#[]⟩] 25)) (.int .i64 W) (.int .i64 H) (.string ⟨#[]⟩) 25
  rw [← hX] at Y Z
  rw [← hX]
  have XS := hid Xs
  have XB := hid Xb
  have YH := hid Y
  have ZH := hid Z
  clear hX Xs Xb Y Z
  go_loopw [10, 11] (fun v i wr => ∃ (l : List UInt8), i = .int .i64 l.length ∧ l.length ≤ t ∧ Hid (l.all Pm.okPix = true) ∧ wr.ownsRow (w.heap.size + 2) 5 1 v l.length (cellsOf l) ∧ Below (w.heap.size + 2) X wr) (fun _ i _ => t - (intOf i).toNat)
  case atStart => exact ⟨[], rfl, by simp, rfl, World.ownsRow_nil _ _ _ _, Below.refl _ _⟩
  case round =>
    obtain ⟨l, rfl, hlt0, hall, hown, hnx⟩ := hrel
    have hsz : w.heap.size + 2 ≤ wr.heap.size := by have := hnx.size; have := XS.out; omega
    have hnx2 : Below X.heap.size X wr := hnx.mono (by rw [XS.out]; omega)
    obtain ⟨⟨y0, y1, y2⟩, ⟨g0, g1, g2⟩, yB, yz⟩ := YH.out.on hnx2
    obtain ⟨⟨z0, z1, z2⟩, ⟨j0, j1, j2⟩, zB, zz⟩ := ZH.out.on hnx2
    simp at z0 z1 z2 j0 j1 j2 zz
    have HB := hid yB
    have HN := hid hnx2
    clear yB zB hnx2
    by_cases hlt : l.length < t
    · by_cases hq : l.length / 16 < len
      · rcases hraw2.out with hl0 | ⟨b, off, rfl, hb0, hcell⟩
        · omega
        · obtain ⟨z, hz⟩ := hcell (l.length / 16) hq
          have hzr : wr.cell? ⟨b, off + l.length / 16, none⟩ = some (.int .i64 z) := ((HN.out.mono (by rw [XS.out]; omega)).cell (p := ⟨b, off + l.length / 16, none⟩) (show b < w.heap.size from hb0)).trans ((XB.out.cell (p := ⟨b, off + l.length / 16, none⟩) hb0).trans hz)
          clear hz hcell
          obtain ⟨bit, hbit, hbe⟩ := and_one_i64 (z / 2 ^ (l.length % 16))
          have BV : (UInt8.ofNat (48 + bit)).toNat = 48 + bit := by simp only [UInt8.toNat_ofNat']; omega
          have BO : Hid (Pm.okPix (UInt8.ofNat (48 + bit)) = true) := Pm.okPix_of _ (by rw [BV]; omega)
          have BVH := hid BV
          clear BV
          go_wp2_with (first
            | (at_builtin; refine wpList_append_own _ rfl _ _ 41 rfl (w.heap.size + 2) 5 i0 (.int .u8 0) 1 1 Try.underlying41 hi hz0 hz1 hz2 rfl (by decide) _ _ _ rfl (hown.alloc _) ⟨_, 0, none⟩ 1 1 [.int .u8 (48 + (bit : Int))] rfl rfl ?c1 ?c2 ?c3 ?c4 ?c5 ?_))
          case c1 =>
            intro j' u hj'
            match j', hj' with
            | 0, hj' => simp at hj'; subst hj'; simp [Addr.add]
          case c2 => intro u hu; simp at hu; subst hu; rfl
          case c3 => unfold maxLen; omega
          case c4 => omega
          case c5 => simp; omega
          · intro v' w3 hown' hgrow _
            have hb : Below (w.heap.size + 2) X w3 := (hnx.alloc (by omega) _).grown hgrow (by simp; omega) (fun k hk => (hown.lt k hk).1)
            have ho : w3.ownsRow (w.heap.size + 2) 5 1 v' (l ++ [UInt8.ofNat (48 + bit)]).length (cellsOf (l ++ [UInt8.ofNat (48 + bit)])) := by rw [cellsOf_snoc, List.length_append, BVH.out]; exact hown'
            clear hown' hgrow hown
            go_wp2
            go_roundw
            case rel => exact ⟨l ++ [UInt8.ofNat (48 + bit)], by simp, by simp; omega, by show _ = _; rw [List.all_append, hall.out]; simp only [List.all_cons, List.all_nil, Bool.and_true, Bool.true_and]; exact BO.out, ho, hb⟩
            case measure => simp [intOf]; omega
      · go_wp2_with (first
          | (at_builtin; refine wpList_append_own _ rfl _ _ 41 rfl (w.heap.size + 2) 5 i0 (.int .u8 0) 1 1 Try.underlying41 hi hz0 hz1 hz2 rfl (by decide) _ _ _ rfl (hown.alloc _) ⟨_, 0, none⟩ 1 1 [.int .u8 48] rfl rfl ?c1 ?c2 ?c3 ?c4 ?c5 ?_))
        case c1 =>
          intro j' u hj'
          match j', hj' with
          | 0, hj' => simp at hj'; subst hj'; simp [Addr.add]
        case c2 => intro u hu; simp at hu; subst hu; rfl
        case c3 => unfold maxLen; omega
        case c4 => omega
        case c5 => simp; omega
        · intro v' w3 hown' hgrow _
          have hb : Below (w.heap.size + 2) X w3 := (hnx.alloc (by omega) _).grown hgrow (by simp; omega) (fun k hk => (hown.lt k hk).1)
          have ho : w3.ownsRow (w.heap.size + 2) 5 1 v' (l ++ [48]).length (cellsOf (l ++ [48])) := by rw [cellsOf_snoc, List.length_append, show (48 : UInt8).toNat = 48 from rfl]; exact hown'
          clear hown' hgrow hown
          go_wp2
          go_roundw
          case rel => exact ⟨l ++ [48], by simp, by simp; omega, by show _ = _; rw [List.all_append, hall.out]; simp only [List.all_cons, List.all_nil, Bool.and_true, Bool.true_and]; exact rfl, ho, hb⟩
          case measure => simp [intOf]; omega
    · have hB1 : 0 < l.length := by omega
      have LT := hid (show l.length = W * H by rw [← T.out]; omega)
      rcases hown.2 with ⟨-, h0⟩ | ⟨g, cap, cur, rfl, -, -, -, -, -, -⟩
      · omega
      · have hcv := run_convert_bytes_back (P := Try.prog) wr 41 9 5 ⟨g, 0, none⟩ cap l Try.underlying41 Try.underlying5 Try.underlying9 (fun j hj => hown.cells (g := g) rfl j _ (by simp [cellsOf, hj]))
        go_wp2
        refine bodyPost_ret (v := .agg #[.int .i64 W, .int .i64 H, .string ⟨l.toArray⟩]) (by simp [results, Try.results5, go_sem, y0, y1, y2]) rfl ?_
        exact ⟨⟨W, H, l, rfl, W1, W2, H1, H2, LT.out, hall.out⟩, (((HB.out.setCell (by simp) _).setCell (by simp) _).setCell (by simp) _).setCell (by simp) _⟩
end Go.Proofs.Ytljfiefobnncaab

/- How raw numbers come in on a plain seat. -/
namespace Go.Proofs.Ytljfiefobnncaab
open Go.ChangeShapes Go.WideShapes Go.ChangeAt Go.RowKit Go.Joins

theorem cellsInt : Try.prog.cellsOf 3 = 1 := by kernel_rfl
theorem bytesInt : Try.prog.bytesOf 3 = 8 := by kernel_rfl

set_option maxRecDepth 100000 in
theorem open_raw {H : Type} {enc : TypeId × Value → H} {W : World} {base : Nat} {v : Value} {d : DataW H} {p : List MemPlace} {ts : List TypeId} {ds : List (DataW H)} (hsz : (DataW.weightsEach Try.prog ts ds).all (· ≤ reachBytes) = true) (ht : ts[0]? = some 22) (hd : ds[0]? = some d)
    (hv : Value.okWide Try.prog W .any base 22 v) (h : DataW.Trod enc Try.prog W 0 (fun _ => true) true 22 v d p) :
    ∃ ao len cap, v = .slice ao len cap ∧ RawIs ao len W ∧ len ≤ 140737488355328 := by
  obtain ⟨ao, len, cap, rfl⟩ := okWide_slice Try.underlying22 hv
  refine ⟨ao, len, cap, rfl, ?_⟩
  obtain ⟨fuel, hf⟩ := h
  rcases open_ints Try.underlying22 Try.underlying3 cellsInt hf with ⟨hcs, -⟩ | ⟨ad, len', cap', zs, hcs, -, hl, hm, hz, hxx, hcell, -⟩
  · simp [Value.cells] at hcs
    obtain ⟨-, rfl, -⟩ := hcs
    exact ⟨.inl rfl, by omega⟩
  · simp [Value.cells] at hcs
    obtain ⟨rfl, rfl, rfl⟩ := hcs
    simp only [if_true] at hz
    obtain ⟨rfl, rfl⟩ := Prod.mk.inj hxx
    have hw := sized_slice hsz (j := 0) (t := 22) (e := 3) ht hd Try.underlying22
    rw [bytesInt] at hw
    have : reachBytes = 140737488351232 := by decide
    simp only [lits, List.length_map, List.length_take, List.length_drop, this] at hw
    refine ⟨?_, by omega⟩
    by_cases hp : len = 0
    · exact .inl hp
    · obtain ⟨bk, off, rfl, hc⟩ := ints_at hcell (by omega)
      refine .inr ⟨bk, off, rfl, ?_, fun j hj => ⟨_, hc j (by omega)⟩⟩
      exact World.block_lt_of_cell? W _ (hc 0 (by omega))
end Go.Proofs.Ytljfiefobnncaab
