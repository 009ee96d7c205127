import Derived.Test.YtljfiefobnncaabDoorK08
import Derived.Test.YtljfiefobnncaabDoorK14
import Derived.Test.YtljfiefobnncaabDoorK13

/- built: a bitmap out of raw numbers. -/
namespace Go.Proofs.YtljfiefobnncaabDoor
open Go.RowKit

theorem and_one_i64 (x : Int) : ∃ b : Nat, b ≤ 1 ∧ bits BinOp.and IntKind.i64 x 1 = (b : Int) := by
  refine ⟨(BitVec.ofInt 64 x &&& BitVec.ofInt 64 1).toNat, ?_, ?_⟩
  · rw [BitVec.toNat_and, show (BitVec.ofInt 64 1).toNat = 1 from rfl, Nat.and_one_is_mod]; omega
  · show IntKind.i64.wrap ((BitVec.ofInt 64 x &&& BitVec.ofInt 64 1).toNat : Int) = _
    rw [BitVec.toNat_and, show (BitVec.ofInt 64 1).toNat = 1 from rfl, Nat.and_one_is_mod, IntKind.wrap_i64]; omega

/-- What a slice of raw numbers gives: nothing, or a number at each place below its length. -/
def RawIs (ao : Option Addr) (len : Nat) (w : World) : Prop :=
  len = 0 ∨ ∃ b off, ao = some ⟨b, off, none⟩ ∧ b < w.heap.size ∧ ∀ j, j < len → ∃ z, w.cell? ⟨b, off + j, none⟩ = some (.int .i64 z)

set_option maxRecDepth 4000 in
set_option maxHeartbeats 2000000 in
theorem built_core (ao : Option Addr) (len cap : Nat) (a h : Int) (w : World) (hraw : RawIs ao len w) (hlen : len ≤ 140737488355328) (a1 : -9223372036854775808 ≤ a) (a2 : a ≤ 9223372036854775807) (h1 : -9223372036854775808 ≤ h) (h2 : h ≤ 9223372036854775807) :
    Calls Tryd.prog 5 #[.slice ao len cap, .int .i64 a, .int .i64 h, .int .i64 32] w fun e w' => (∃ (W H : Nat) (l : List UInt8), e = .returned (.agg #[.int .i64 W, .int .i64 H, .string ⟨l.toArray⟩]) ∧ 1 ≤ W ∧ W ≤ 32 ∧ 1 ≤ H ∧ H ≤ 32 ∧ l.length = W * H ∧ l.all Pm.okPix = true) ∧ Below w.heap.size w w' := by
  obtain ⟨i0, hi, hz0, hz1, hz2⟩ := info_parts infoByte
  go_enter Tryd.func5, Tryd.ntmps5
  go_wp2_with fail
  refine (pick_any a 32 a1 a2 (by omega) (by omega) _).mono ?_
  rintro e w1 ⟨⟨r1, rfl, hr1⟩, rfl⟩
  go_wp2_with fail
  refine (pick_any h 32 h1 h2 (by omega) (by omega) _).mono ?_
  rintro e w1 ⟨⟨r2, rfl, hr2⟩, rfl⟩
  go_wp2
  have hraw2 := hid hraw
  clear hraw
  obtain ⟨W, hW⟩ : ∃ W, W = 1 + r1 := ⟨_, rfl⟩
  obtain ⟨H, hH⟩ : ∃ H, H = 1 + r2 := ⟨_, rfl⟩
  have eW : (1 : Int) + (r1 : Int) = (W : Nat) := by omega
  have eH : (1 : Int) + (r2 : Int) = (H : Nat) := by omega
  have W1 : 1 ≤ W := by omega
  have W2 : W ≤ 32 := by omega
  have H1 : 1 ≤ H := by omega
  have H2 : H ≤ 32 := by omega
  simp only [eW, eH]
  clear eW eH hW hH hr1 hr2
  obtain ⟨t, ht⟩ : ∃ t, t = W * H := ⟨_, rfl⟩
  have et : (W : Int) * (H : Int) = (t : Nat) := by rw [ht]; simp
  have t1 : 1 ≤ t := by rw [ht]; exact Nat.mul_le_mul W1 H1
  have t2 : t ≤ 1024 := by rw [ht]; exact Nat.mul_le_mul W2 H2
  have T := hid ht
  clear ht
  obtain ⟨X, hX⟩ : ∃ X, X = (w.alloc (.cells #[.int .i64 0, .int .i64 0, .string ⟨#[]⟩] 25)).alloc (.cells #[.int .i64 W, .int .i64 H, .string ⟨#[]⟩] 25) := ⟨_, rfl⟩
  have Xs : X.heap.size = w.heap.size + 2 := by rw [hX]; simp
  have Xb : Below w.heap.size w X := by rw [hX]; exact ((Below.refl _ _).alloc (Nat.le_refl _) _).alloc (by simp) _
  have Y := Box3.new w (.int .i64 0) (.int .i64 0) (.string ⟨#[]⟩) 25 |>.alloc (.cells #[.int .i64 W, .int .i64 H, .string ⟨#[]⟩] 25)
  have Z := Box3.new (w.alloc (.cells #[.int .i64 0, .int .i64 0, .string ⟨#[]⟩] 25)) (.int .i64 W) (.int .i64 H) (.string ⟨#[]⟩) 25
  rw [← hX] at Y Z
  rw [← hX]
  have XS := hid Xs
  have XB := hid Xb
  have YH := hid Y
  have ZH := hid Z
  clear hX Xs Xb Y Z
  go_loopw [10, 11] (fun v i wr => ∃ (l : List UInt8), i = .int .i64 l.length ∧ l.length ≤ t ∧ Hid (l.all Pm.okPix = true) ∧ wr.ownsRow (w.heap.size + 2) 5 1 v l.length (cellsOf l) ∧ Below (w.heap.size + 2) X wr) (fun _ i _ => t - (intOf i).toNat)
  case atStart => exact ⟨[], rfl, by simp, rfl, World.ownsRow_nil _ _ _ _, Below.refl _ _⟩
  case round =>
    obtain ⟨l, rfl, hlt0, hall, hown, hnx⟩ := hrel
    have hsz : w.heap.size + 2 ≤ wr.heap.size := by have := hnx.size; have := XS.out; omega
    have hnx2 : Below X.heap.size X wr := hnx.mono (by rw [XS.out]; omega)
    obtain ⟨⟨y0, y1, y2⟩, ⟨g0, g1, g2⟩, yB, yz⟩ := YH.out.on hnx2
    obtain ⟨⟨z0, z1, z2⟩, ⟨j0, j1, j2⟩, zB, zz⟩ := ZH.out.on hnx2
    simp at z0 z1 z2 j0 j1 j2 zz
    have HB := hid yB
    have HN := hid hnx2
    clear yB zB hnx2
    by_cases hlt : l.length < t
    · by_cases hq : l.length / 16 < len
      · rcases hraw2.out with hl0 | ⟨b, off, rfl, hb0, hcell⟩
        · omega
        · obtain ⟨z, hz⟩ := hcell (l.length / 16) hq
          have hzr : wr.cell? ⟨b, off + l.length / 16, none⟩ = some (.int .i64 z) := ((HN.out.mono (by rw [XS.out]; omega)).cell (p := ⟨b, off + l.length / 16, none⟩) (show b < w.heap.size from hb0)).trans ((XB.out.cell (p := ⟨b, off + l.length / 16, none⟩) hb0).trans hz)
          clear hz hcell
          obtain ⟨bit, hbit, hbe⟩ := and_one_i64 (z / 2 ^ (l.length % 16))
          have BV : (UInt8.ofNat (48 + bit)).toNat = 48 + bit := by simp only [UInt8.toNat_ofNat']; omega
          have BO : Hid (Pm.okPix (UInt8.ofNat (48 + bit)) = true) := Pm.okPix_of _ (by rw [BV]; omega)
          have BVH := hid BV
          clear BV
          go_wp2_with (first
            | (at_builtin; refine wpList_append_own _ rfl _ _ 44 rfl (w.heap.size + 2) 5 i0 (.int .u8 0) 1 1 Tryd.underlying44 hi hz0 hz1 hz2 rfl (by decide) _ _ _ rfl (hown.alloc _) ⟨_, 0, none⟩ 1 1 [.int .u8 (48 + (bit : Int))] rfl rfl ?c1 ?c2 ?c3 ?c4 ?c5 ?_))
          case c1 =>
            intro j' u hj'
            match j', hj' with
            | 0, hj' => simp at hj'; subst hj'; simp [Addr.add]
          case c2 => intro u hu; simp at hu; subst hu; rfl
          case c3 => unfold maxLen; omega
          case c4 => omega
          case c5 => simp; omega
          · intro v' w3 hown' hgrow _
            have hb : Below (w.heap.size + 2) X w3 := (hnx.alloc (by omega) _).grown hgrow (by simp; omega) (fun k hk => (hown.lt k hk).1)
            have ho : w3.ownsRow (w.heap.size + 2) 5 1 v' (l ++ [UInt8.ofNat (48 + bit)]).length (cellsOf (l ++ [UInt8.ofNat (48 + bit)])) := by rw [cellsOf_snoc, List.length_append, BVH.out]; exact hown'
            clear hown' hgrow hown
            go_wp2
            go_roundw
            case rel => exact ⟨l ++ [UInt8.ofNat (48 + bit)], by simp, by simp; omega, by show _ = _; rw [List.all_append, hall.out]; simp only [List.all_cons, List.all_nil, Bool.and_true, Bool.true_and]; exact BO.out, ho, hb⟩
            case measure => simp [intOf]; omega
      · go_wp2_with (first
          | (at_builtin; refine wpList_append_own _ rfl _ _ 44 rfl (w.heap.size + 2) 5 i0 (.int .u8 0) 1 1 Tryd.underlying44 hi hz0 hz1 hz2 rfl (by decide) _ _ _ rfl (hown.alloc _) ⟨_, 0, none⟩ 1 1 [.int .u8 48] rfl rfl ?c1 ?c2 ?c3 ?c4 ?c5 ?_))
        case c1 =>
          intro j' u hj'
          match j', hj' with
          | 0, hj' => simp at hj'; subst hj'; simp [Addr.add]
        case c2 => intro u hu; simp at hu; subst hu; rfl
        case c3 => unfold maxLen; omega
        case c4 => omega
        case c5 => simp; omega
        · intro v' w3 hown' hgrow _
          have hb : Below (w.heap.size + 2) X w3 := (hnx.alloc (by omega) _).grown hgrow (by simp; omega) (fun k hk => (hown.lt k hk).1)
          have ho : w3.ownsRow (w.heap.size + 2) 5 1 v' (l ++ [48]).length (cellsOf (l ++ [48])) := by rw [cellsOf_snoc, List.length_append, show (48 : UInt8).toNat = 48 from rfl]; exact hown'
          clear hown' hgrow hown
          go_wp2
          go_roundw
          case rel => exact ⟨l ++ [48], by simp, by simp; omega, by show _ = _; rw [List.all_append, hall.out]; simp only [List.all_cons, List.all_nil, Bool.and_true, Bool.true_and]; exact rfl, ho, hb⟩
          case measure => simp [intOf]; omega
    · have hB1 : 0 < l.length := by omega
      have LT := hid (show l.length = W * H by rw [← T.out]; omega)
      rcases hown.2 with ⟨-, h0⟩ | ⟨g, cap, cur, rfl, -, -, -, -, -, -⟩
      · omega
      · have hcv := run_convert_bytes_back (P := Tryd.prog) wr 44 9 5 ⟨g, 0, none⟩ cap l Tryd.underlying44 Tryd.underlying5 Tryd.underlying9 (fun j hj => hown.cells (g := g) rfl j _ (by simp [cellsOf, hj]))
        go_wp2
        refine bodyPost_ret (v := .agg #[.int .i64 W, .int .i64 H, .string ⟨l.toArray⟩]) (by simp [results, Tryd.results5, go_sem, y0, y1, y2]) rfl ?_
        exact ⟨⟨W, H, l, rfl, W1, W2, H1, H2, LT.out, hall.out⟩, (((HB.out.setCell (by simp) _).setCell (by simp) _).setCell (by simp) _).setCell (by simp) _⟩
end Go.Proofs.YtljfiefobnncaabDoor

/- outlinekeep: what Walked asks first: options and Cycles beside a bitmap that lies in a box. -/
namespace Go.Proofs.YtljfiefobnncaabDoor
open Go.RowKit



/-- In Walked's loop: the shape number i stands where it stood, the marks are G. -/
def Wd (gg gl i g m c : Nat) (tw : Int) (X : World) (G : Nat → Bool) (w : World) : Prop :=
  w.cell? ⟨gl, i * 2, none⟩ = some (.slice (some ⟨g, 0, none⟩) m c) ∧ w.cell? ⟨gl, i * 2 + 1, none⟩ = some (.int .i64 tw) ∧ Below gg X w ∧ GoneAt gg 4356 G w
theorem Wd.on {gg gl i g m c : Nat} {tw : Int} {X : World} {G : Nat → Bool} {w w' : World} (h : Wd gg gl i g m c tw X G w) (hg : gl < gg) (hb : Below w.heap.size w w') : Wd gg gl i g m c tw X G w' := by
  obtain ⟨h1, h2, h3, h4⟩ := h
  have := h4.1
  exact ⟨(hb.cell (p := ⟨gl, i * 2, none⟩) (show gl < _ by omega)).trans h1, (hb.cell (p := ⟨gl, i * 2 + 1, none⟩) (show gl < _ by omega)).trans h2, h3.trans (hb.mono (by omega)), h4.on hb h4.1⟩
theorem Wd.drew {gg gl i g m c : Nat} {tw : Int} {X : World} {G : Nat → Bool} {w : World} (h : Wd gg gl i g m c tw X G w) (hg : gl < gg) : Wd gg gl i g m c tw X G w.drew :=
  h.on hg ⟨rfl, rfl, rfl, Nat.le_refl _, fun _ _ => rfl⟩
theorem twice_wd {gg gl i g m c : Nat} {X : World} {G : Nat → Bool} {w : World} (l : List (Int × Int)) (h : Wd gg gl i g m c (Qm.twiceOf l) X G w) (hg : gl < gg) (hn : m = l.length) (h0 : 0 < m) (hs : Qm.Small l) (hn2 : m ≤ 4356) (hP : PtsAt g l X) (hgg : gg = X.heap.size) :
    Calls Tryd.prog 14 #[.agg #[.slice (some ⟨g, 0, none⟩) m c, .int .i64 (Qm.twiceOf l)]] w fun e w' => e = .returned (.int .i64 (Qm.twiceOf l)) ∧ Wd gg gl i g m c (Qm.twiceOf l) X G w' :=
  (keepTwice_any g m c _ l hn h0 hs hn2 w (hP.on h.2.2.1 (by rw [hgg]; exact hP.1))).mono fun _ _ ⟨h1, h2⟩ => ⟨h1, h.on hg h2⟩
/-- What stands at the shape number i. -/
theorem Shown.at {f : Qm.Sd → Qm.Sd} {al : Option Addr} {cl n : Nat} {L : List (Value × (Qm.Sd × Nat))} {X : World} (h : Shown f (.slice al n cl) L X) {R : List (Qm.Sd × Nat)} (hR : R = L.map (·.2)) {gl : Nat} (hc : ∀ j u, (shpV f L)[j]? = some u → X.cell? ⟨gl, j, none⟩ = some u) {i : Nat} (hi : i < R.length) :
    ∃ g c, 0 < R[i].2 ∧ PtsAt g (Qm.ptsOf f R[i]) X ∧ X.cell? ⟨gl, i * 2, none⟩ = some (.slice (some ⟨g, 0, none⟩) R[i].2 c) ∧ X.cell? ⟨gl, i * 2 + 1, none⟩ = some (.int .i64 (Qm.twiceOf (Qm.ptsOf f R[i]))) := by
  subst hR
  have hi' : i < L.length := by simpa using hi
  obtain ⟨g, c, e, h0, hp⟩ := h.pts L[i] (List.getElem_mem hi')
  have s := shpV_at f L i hi'
  rw [e] at s
  refine ⟨g, c, ?_⟩
  simp only [List.getElem_map]
  exact ⟨h0, hp, hc _ _ s.1, hc _ _ s.2⟩

end Go.Proofs.YtljfiefobnncaabDoor
/- outlinekeep: traces; the polygons where there is no speckle. -/
namespace Go.Proofs.YtljfiefobnncaabDoor
open Go.RowKit

namespace Qm
theorem bigB_zero {bl jn : Int → Int → Bool} {c : Sd × Nat} (h : Cyc (nx bl jn) (fun s => isS bl s = true) c.1 c.2) {W H : Nat} (hp : Pic bl W H) : bigB (nx bl jn) 0 c = true := by
  have := h.twice_ne hp
  unfold bigB absZ
  rw [decide_eq_true_eq]
  split <;> omega
theorem polys_zero {bl jn : Int → Int → Bool} {R : List (Sd × Nat)} (h : Res (nx bl jn) (fun s => isS bl s = true) key R) {W H : Nat} (hp : Pic bl W H) : polys (nx bl jn) 0 R = R.map fun c => cornL (ptsOf (nx bl jn) c) := by
  unfold polys
  rw [List.filter_eq_self.2 fun c hc => bigB_zero (h.1 c hc).1 hp]
end Qm

theorem polys_one : Qm.polys (fB 1 1 ⟨#[49]⟩ 0 ⟨#[]⟩) 0 [((0, 0, 0), 4)] = [[(0, 0), (0, 1), (1, 1), (1, 0)]] := by decide
theorem one_traced {vl : Value} {w w' : World} (h : TraceOut 1 1 ⟨#[49]⟩ 0 ⟨#[]⟩ 0 w vl w') : Below w.heap.size w w' ∧ ∃ gl cap g c, vl = .slice (some ⟨gl, 0, none⟩) 1 cap ∧ gl < w'.heap.size ∧ g < w'.heap.size ∧ w'.cell? ⟨gl, 0, none⟩ = some (.slice (some ⟨g, 0, none⟩) 4 c) ∧ w'.cell? ⟨gl, 1, none⟩ = some (.int .i64 2) := by
  obtain ⟨R, L, h1, h2, h3, _, h5⟩ := h
  refine ⟨h5, ?_⟩
  have e := h1.unique res_one
  subst e
  rw [polys_one] at h2
  obtain ⟨v, rfl⟩ : ∃ v, L = [(v, [(0, 0), (0, 1), (1, 1), (1, 0)])] := by
    match L, h2 with
    | [], e => simp at e
    | [(v, c)], e => simp at e; subst e; exact ⟨v, rfl⟩
    | _ :: _ :: _, e => simp at e
  have sh := h3.shown (fun p hp => by simp at hp; subst hp; simp)
  obtain ⟨ao, cap, rfl, hr⟩ := sh.row
  obtain ⟨gl, rfl, hgl, hc⟩ := hr.resolve_left (by simp)
  obtain ⟨g, c, hv, _, hg, hp⟩ := sh.pts _ (List.mem_singleton.2 rfl)
  simp only at hv hp
  subst hv
  have s0 := shpP_at [((Value.slice (some ⟨g, 0, none⟩) 4 c), [((0 : Int), (0 : Int)), (0, 1), (1, 1), (1, 0)])] 0 (by simp)
  have c0 := hc _ _ s0.1
  have c1 := hc _ _ s0.2
  have et : Qm.twiceOf [(0, 0), (0, 1), (1, 1), (1, 0)] = 2 := by decide
  simp only [List.getElem_cons_zero, et] at c0 c1
  exact ⟨gl, cap, g, c, rfl, hgl, hg, c0, c1⟩

set_option maxRecDepth 4000 in
set_option maxHeartbeats 1000000 in
theorem traces_any (w : World) :
    Calls Tryd.prog 4 #[] w fun e w' => e = .returned (.bool true) ∧ Below w.heap.size w w' := by
  go_enter Tryd.func4, Tryd.ntmps4
  go_wp2_with fail
  refine (works_any _).mono ?_
  rintro e w0 ⟨rfl, hb0⟩
  have B0 := hid (show Below w.heap.size w w0 from hb0)
  clear hb0
  go_wp2_with fail
  refine (trace_yes 1 1 ⟨#[49]⟩ 0 ⟨#[]⟩ 0 _ (by decide) (by omega) (by omega) rfl (by omega) (by omega) (by omega)).mono ?_
  rintro e w1 ⟨vl, rfl, ho⟩
  obtain ⟨hb, gl, cap, g, c, rfl, hgl, hg, c0, c1⟩ := one_traced ho
  have B1 := hid (show Below w.heap.size w w1 from B0.out.trans (hb.mono B0.out.size))
  clear hb ho
  go_wp2
  go_ret
  exact ⟨rfl, B1.out⟩
end Go.Proofs.YtljfiefobnncaabDoor

/- built: a bitmap out of raw numbers, of at most so many pixels a side. -/
namespace Go.Proofs.YtljfiefobnncaabDoor
open Go.RowKit

set_option maxRecDepth 4000 in
set_option maxHeartbeats 2000000 in
theorem built_most (most : Nat) (hm1 : 1 ≤ most) (hm2 : most ≤ 32) (ao : Option Addr) (len cap : Nat) (a h : Int) (w : World) (hraw : RawIs ao len w) (hlen : len ≤ 140737488355328) (a1 : -9223372036854775808 ≤ a) (a2 : a ≤ 9223372036854775807) (h1 : -9223372036854775808 ≤ h) (h2 : h ≤ 9223372036854775807) :
    Calls Tryd.prog 5 #[.slice ao len cap, .int .i64 a, .int .i64 h, .int .i64 most] w fun e w' => (∃ (W H : Nat) (l : List UInt8), e = .returned (.agg #[.int .i64 W, .int .i64 H, .string ⟨l.toArray⟩]) ∧ 1 ≤ W ∧ W ≤ most ∧ 1 ≤ H ∧ H ≤ most ∧ l.length = W * H ∧ l.all Pm.okPix = true) ∧ Below w.heap.size w w' := by
  obtain ⟨i0, hi, hz0, hz1, hz2⟩ := info_parts infoByte
  go_enter Tryd.func5, Tryd.ntmps5
  go_wp2_with fail
  refine (pick_any a most a1 a2 hm1 hm2 _).mono ?_
  rintro e w1 ⟨⟨r1, rfl, hr1⟩, rfl⟩
  go_wp2_with fail
  refine (pick_any h most h1 h2 hm1 hm2 _).mono ?_
  rintro e w1 ⟨⟨r2, rfl, hr2⟩, rfl⟩
  go_wp2
  have hraw2 := hid hraw
  clear hraw
  obtain ⟨W, hW⟩ : ∃ W, W = 1 + r1 := ⟨_, rfl⟩
  obtain ⟨H, hH⟩ : ∃ H, H = 1 + r2 := ⟨_, rfl⟩
  have eW : (1 : Int) + (r1 : Int) = (W : Nat) := by omega
  have eH : (1 : Int) + (r2 : Int) = (H : Nat) := by omega
  have W1 : 1 ≤ W := by omega
  have W2m : W ≤ most := by omega
  have W2 : W ≤ 32 := by omega
  have H1 : 1 ≤ H := by omega
  have H2m : H ≤ most := by omega
  have H2 : H ≤ 32 := by omega
  simp only [eW, eH]
  clear eW eH hW hH hr1 hr2
  obtain ⟨t, ht⟩ : ∃ t, t = W * H := ⟨_, rfl⟩
  have et : (W : Int) * (H : Int) = (t : Nat) := by rw [ht]; simp
  have t1 : 1 ≤ t := by rw [ht]; exact Nat.mul_le_mul W1 H1
  have t2 : t ≤ 1024 := by rw [ht]; exact Nat.mul_le_mul W2 H2
  have T := hid ht
  clear ht
  obtain ⟨X, hX⟩ : ∃ X, X = (w.alloc (.cells #[.int .i64 0, .int .i64 0, .string ⟨#[]⟩] 25)).alloc (.cells #[.int .i64 W, .int .i64 H, .string ⟨#[]⟩] 25) := ⟨_, rfl⟩
  have Xs : X.heap.size = w.heap.size + 2 := by rw [hX]; simp
  have Xb : Below w.heap.size w X := by rw [hX]; exact ((Below.refl _ _).alloc (Nat.le_refl _) _).alloc (by simp) _
  have Y := Box3.new w (.int .i64 0) (.int .i64 0) (.string ⟨#[]⟩) 25 |>.alloc (.cells #[.int .i64 W, .int .i64 H, .string ⟨#[]⟩] 25)
  have Z := Box3.new (w.alloc (.cells #[.int .i64 0, .int .i64 0, .string ⟨#[]⟩] 25)) (.int .i64 W) (.int .i64 H) (.string ⟨#[]⟩) 25
  rw [← hX] at Y Z
  rw [← hX]
  have XS := hid Xs
  have XB := hid Xb
  have YH := hid Y
  have ZH := hid Z
  clear hX Xs Xb Y Z
  go_loopw [10, 11] (fun v i wr => ∃ (l : List UInt8), i = .int .i64 l.length ∧ l.length ≤ t ∧ Hid (l.all Pm.okPix = true) ∧ wr.ownsRow (w.heap.size + 2) 5 1 v l.length (cellsOf l) ∧ Below (w.heap.size + 2) X wr) (fun _ i _ => t - (intOf i).toNat)
  case atStart => exact ⟨[], rfl, by simp, rfl, World.ownsRow_nil _ _ _ _, Below.refl _ _⟩
  case round =>
    obtain ⟨l, rfl, hlt0, hall, hown, hnx⟩ := hrel
    have hsz : w.heap.size + 2 ≤ wr.heap.size := by have := hnx.size; have := XS.out; omega
    have hnx2 : Below X.heap.size X wr := hnx.mono (by rw [XS.out]; omega)
    obtain ⟨⟨y0, y1, y2⟩, ⟨g0, g1, g2⟩, yB, yz⟩ := YH.out.on hnx2
    obtain ⟨⟨z0, z1, z2⟩, ⟨j0, j1, j2⟩, zB, zz⟩ := ZH.out.on hnx2
    simp at z0 z1 z2 j0 j1 j2 zz
    have HB := hid yB
    have HN := hid hnx2
    clear yB zB hnx2
    by_cases hlt : l.length < t
    · by_cases hq : l.length / 16 < len
      · rcases hraw2.out with hl0 | ⟨b, off, rfl, hb0, hcell⟩
        · omega
        · obtain ⟨z, hz⟩ := hcell (l.length / 16) hq
          have hzr : wr.cell? ⟨b, off + l.length / 16, none⟩ = some (.int .i64 z) := ((HN.out.mono (by rw [XS.out]; omega)).cell (p := ⟨b, off + l.length / 16, none⟩) (show b < w.heap.size from hb0)).trans ((XB.out.cell (p := ⟨b, off + l.length / 16, none⟩) hb0).trans hz)
          clear hz hcell
          obtain ⟨bit, hbit, hbe⟩ := and_one_i64 (z / 2 ^ (l.length % 16))
          have BV : (UInt8.ofNat (48 + bit)).toNat = 48 + bit := by simp only [UInt8.toNat_ofNat']; omega
          have BO : Hid (Pm.okPix (UInt8.ofNat (48 + bit)) = true) := Pm.okPix_of _ (by rw [BV]; omega)
          have BVH := hid BV
          clear BV
          go_wp2_with (first
            | (at_builtin; refine wpList_append_own _ rfl _ _ 44 rfl (w.heap.size + 2) 5 i0 (.int .u8 0) 1 1 Tryd.underlying44 hi hz0 hz1 hz2 rfl (by decide) _ _ _ rfl (hown.alloc _) ⟨_, 0, none⟩ 1 1 [.int .u8 (48 + (bit : Int))] rfl rfl ?c1 ?c2 ?c3 ?c4 ?c5 ?_))
          case c1 =>
            intro j' u hj'
            match j', hj' with
            | 0, hj' => simp at hj'; subst hj'; simp [Addr.add]
          case c2 => intro u hu; simp at hu; subst hu; rfl
          case c3 => unfold maxLen; omega
          case c4 => omega
          case c5 => simp; omega
          · intro v' w3 hown' hgrow _
            have hb : Below (w.heap.size + 2) X w3 := (hnx.alloc (by omega) _).grown hgrow (by simp; omega) (fun k hk => (hown.lt k hk).1)
            have ho : w3.ownsRow (w.heap.size + 2) 5 1 v' (l ++ [UInt8.ofNat (48 + bit)]).length (cellsOf (l ++ [UInt8.ofNat (48 + bit)])) := by rw [cellsOf_snoc, List.length_append, BVH.out]; exact hown'
            clear hown' hgrow hown
            go_wp2
            go_roundw
            case rel => exact ⟨l ++ [UInt8.ofNat (48 + bit)], by simp, by simp; omega, by show _ = _; rw [List.all_append, hall.out]; simp only [List.all_cons, List.all_nil, Bool.and_true, Bool.true_and]; exact BO.out, ho, hb⟩
            case measure => simp [intOf]; omega
      · go_wp2_with (first
          | (at_builtin; refine wpList_append_own _ rfl _ _ 44 rfl (w.heap.size + 2) 5 i0 (.int .u8 0) 1 1 Tryd.underlying44 hi hz0 hz1 hz2 rfl (by decide) _ _ _ rfl (hown.alloc _) ⟨_, 0, none⟩ 1 1 [.int .u8 48] rfl rfl ?c1 ?c2 ?c3 ?c4 ?c5 ?_))
        case c1 =>
          intro j' u hj'
          match j', hj' with
          | 0, hj' => simp at hj'; subst hj'; simp [Addr.add]
        case c2 => intro u hu; simp at hu; subst hu; rfl
        case c3 => unfold maxLen; omega
        case c4 => omega
        case c5 => simp; omega
        · intro v' w3 hown' hgrow _
          have hb : Below (w.heap.size + 2) X w3 := (hnx.alloc (by omega) _).grown hgrow (by simp; omega) (fun k hk => (hown.lt k hk).1)
          have ho : w3.ownsRow (w.heap.size + 2) 5 1 v' (l ++ [48]).length (cellsOf (l ++ [48])) := by rw [cellsOf_snoc, List.length_append, show (48 : UInt8).toNat = 48 from rfl]; exact hown'
          clear hown' hgrow hown
          go_wp2
          go_roundw
          case rel => exact ⟨l ++ [48], by simp, by simp; omega, by show _ = _; rw [List.all_append, hall.out]; simp only [List.all_cons, List.all_nil, Bool.and_true, Bool.true_and]; exact rfl, ho, hb⟩
          case measure => simp [intOf]; omega
    · have hB1 : 0 < l.length := by omega
      have LT := hid (show l.length = W * H by rw [← T.out]; omega)
      rcases hown.2 with ⟨-, h0⟩ | ⟨g, cap, cur, rfl, -, -, -, -, -, -⟩
      · omega
      · have hcv := run_convert_bytes_back (P := Tryd.prog) wr 44 9 5 ⟨g, 0, none⟩ cap l Tryd.underlying44 Tryd.underlying5 Tryd.underlying9 (fun j hj => hown.cells (g := g) rfl j _ (by simp [cellsOf, hj]))
        go_wp2
        refine bodyPost_ret (v := .agg #[.int .i64 W, .int .i64 H, .string ⟨l.toArray⟩]) (by simp [results, Tryd.results5, go_sem, y0, y1, y2]) rfl ?_
        exact ⟨⟨W, H, l, rfl, W1, W2m, H1, H2m, LT.out, hall.out⟩, (((HB.out.setCell (by simp) _).setCell (by simp) _).setCell (by simp) _).setCell (by simp) _⟩
end Go.Proofs.YtljfiefobnncaabDoor

/- outlinekeep: Speckled. -/
namespace Go.Proofs.YtljfiefobnncaabDoor
open Go.RowKit
attribute [local go_sem ↓] Go.wp_at_zero Go.wp_at_succ

theorem shpP_row {b : Nat} {t : TypeId} {vl : Value} {L : List (Value × List (Int × Int))} {w : World} (h : w.ownsRow b t 2 vl L.length (shpP L)) (hp : ∀ p ∈ L, ∃ g cap, p.1 = .slice (some ⟨g, 0, none⟩) p.2.length cap ∧ 0 < p.2.length ∧ PtsAt g p.2 w) : ShownP vl L w := by
  refine ⟨?_, hp⟩
  obtain ⟨ao, cap, e⟩ := own_len h
  refine ⟨ao, cap, e, ?_⟩
  rcases h.2 with ⟨_, h0⟩ | ⟨g, cap', cur, e', _, hg, _⟩
  · exact .inl h0
  · right
    have e2 : ao = some ⟨g, 0, none⟩ := by rw [e] at e'; injection e'
    refine ⟨g, e2, (Array.getElem?_eq_some_iff.1 hg).1, fun j u hu => ?_⟩
    have := h.cells (g := g) (by rw [e']; rfl) j u hu
    rwa [add_zero_at] at this

/-- What stands at the shape number i. -/
theorem ShownP.at {al : Option Addr} {cl n : Nat} {L : List (Value × List (Int × Int))} {X : World} (h : ShownP (.slice al n cl) L X) {gl : Nat} (hc : ∀ j u, (shpP L)[j]? = some u → X.cell? ⟨gl, j, none⟩ = some u) {i : Nat} (hi : i < L.length) :
    ∃ g c, L[i].1 = .slice (some ⟨g, 0, none⟩) L[i].2.length c ∧ 0 < L[i].2.length ∧ PtsAt g L[i].2 X ∧ X.cell? ⟨gl, i * 2, none⟩ = some (.slice (some ⟨g, 0, none⟩) L[i].2.length c) ∧ X.cell? ⟨gl, i * 2 + 1, none⟩ = some (.int .i64 (Qm.twiceOf L[i].2)) := by
  obtain ⟨g, c, e, h0, hp⟩ := h.pts L[i] (List.getElem_mem hi)
  have s := shpP_at L i hi
  have s1 := hc _ _ s.1
  have s2 := hc _ _ s.2
  rw [e] at s1
  exact ⟨g, c, e, h0, hp, s1, s2⟩

theorem big_no {r tw : Int} (h : false = decide (2 * r < Qm.absZ tw)) : ¬ 2 * r < tw ∧ ¬ tw < -2 * r := by
  have := of_decide_eq_false h.symm
  unfold Qm.absZ at this
  split at this <;> omega
theorem big_yes {r tw : Int} (h : true = decide (2 * r < Qm.absZ tw)) : 2 * r < tw ∨ (¬ 2 * r < tw ∧ tw < -2 * r) := by
  have := of_decide_eq_true h.symm
  unfold Qm.absZ at this
  split at this <;> omega
theorem RowP.keep {b : Nat} {vl : Value} {L : List (Value × List (Int × Int))} {w w' : World} (h : RowP b vl L w) {g : Nat} (hg : g < b) (hb : w.grownBy w' (some g)) : RowP b vl L w' :=
  ⟨own_keep h.row hg hb, fun p hp => own_keep (h.pts p hp) hg hb, h.apart⟩
theorem Rowed.rowPk {f : Qm.Sd → Qm.Sd} {b : Nat} {vl : Value} {L : List (Value × (Qm.Sd × Nat))} {w : World} (h : Rowed f b vl L w) : RowP b vl (L.map fun p => (p.1, Qm.ptsOf f p.2)) w := by
  refine ⟨?_, ?_, ?_⟩
  · have e : shpP (L.map fun p => (p.1, Qm.ptsOf f p.2)) = shpV f L := by simp [shpP, shpV, List.flatMap_map]
    rw [e, List.length_map]; exact h.row
  · intro q hq
    obtain ⟨p, hp, rfl⟩ := List.mem_map.1 hq
    have := h.pts p hp
    simp only [Qm.ptsOf_len]; exact this
  · have := h.apart
    simpa [List.map_map, Function.comp_def] using this

end Go.Proofs.YtljfiefobnncaabDoor
/- outlinekeep: Kept. -/
namespace Go.Proofs.YtljfiefobnncaabDoor
open Go.RowKit
attribute [local go_sem ↓] Go.wp_at_zero Go.wp_at_succ

theorem same_fine {va vl : Value} {La L : List (Value × List (Int × Int))} {w : World} (hE : La.map (·.2) = L.map (·.2)) (hf : Fine L) (ha : ShownP va La w) (hb : ShownP vl L w) :
    Calls Tryd.prog 10 #[va, vl] w fun e w' => e = .returned (.bool true) ∧ Below w.heap.size w w' := by
  refine sameShapes_any va vl La L w hE ha hb ?_ fun p hp => ?_
  · have := congrArg List.length hE
    simp only [List.length_map] at this
    have := hf.few; omega
  · have : p.2 ∈ L.map (·.2) := by rw [← hE]; exact List.mem_map_of_mem hp
    obtain ⟨q, hq, e⟩ := List.mem_map.1 this
    have h1 := ptN_in hq
    rw [e] at h1
    have := hf.sum; omega
theorem ins_step {F S : ByteArray} {k : Nat} (hk : k < S.size) (hF : F.data.toList = Pm.insL (S.data.toList.take k)) :
    ((S[k].toNat : Int) = 76 ∨ (S[k].toNat : Int) = 77 ∨ (S[k].toNat : Int) = 122 → (F ++ ⟨#[32, 10]⟩ ++ S.extract k (k + 1)).data.toList = Pm.insL (S.data.toList.take (k + 1))) ∧
    (¬ ((S[k].toNat : Int) = 76 ∨ (S[k].toNat : Int) = 77 ∨ (S[k].toNat : Int) = 122) → (F ++ S.extract k (k + 1)).data.toList = Pm.insL (S.data.toList.take (k + 1))) := by
  have e : S.data.toList.take (k + 1) = S.data.toList.take k ++ [S[k]] := by rw [List.take_succ_eq_append_getElem (by simpa using hk)]; rfl
  have i1 : Pm.insL [S[k]] = Pm.ins1 S[k] := by simp [Pm.insL]
  have num : ∀ n : UInt8, ((S[k].toNat : Int) = (n.toNat : Int)) ↔ S[k] = n := fun n => ⟨fun h => UInt8.toNat_inj.1 (by omega), fun h => by rw [h]⟩
  have t : ((S[k].toNat : Int) = 76 ∨ (S[k].toNat : Int) = 77 ∨ (S[k].toNat : Int) = 122) ↔ (S[k] = 76 ∨ S[k] = 77 ∨ S[k] = 122) := by
    rw [← num 76, ← num 77, ← num 122]; rfl
  rw [e, Pm.insL_app, i1, t]
  unfold Pm.ins1
  refine ⟨fun h => ?_, fun h => ?_⟩
  · rw [if_pos h, Pm.one_cut (F ++ ⟨#[32, 10]⟩) S _ k hk rfl, ByteArray.data_append, Array.toList_append, hF]
    simp
  · rw [if_neg h, Pm.one_cut F S _ k hk hF]
theorem rawIs_onK {ao : Option Addr} {len : Nat} {w w' : World} (h : RawIs ao len w) (hb : Below w.heap.size w w') : RawIs ao len w' := by
  rcases h with h | ⟨b, off, e, hlt, hc⟩
  · exact .inl h
  · refine .inr ⟨b, off, e, Nat.lt_of_lt_of_le hlt hb.size, fun j hj => ?_⟩
    obtain ⟨z, hz⟩ := hc j hj
    exact ⟨z, (hb.cell (p := ⟨b, off + j, none⟩) hlt).trans hz⟩
theorem good_ofK {W H : Nat} {l : List UInt8} (h1 : 1 ≤ W) (h2 : W ≤ 32) (h3 : 1 ≤ H) (h4 : H ≤ 32) (hl : l.length = W * H) (ha : l.all Pm.okPix = true) : Pm.goodB W H l = true :=
  Pm.goodB_yes (by simp [Pm.sideB]; omega) (by simp [Pm.sideB]; omega) (by rw [hl]; simp) ha
theorem may_ofK {W H : Nat} {l : List UInt8} {pol spk : Int} (h : Pm.goodB W H l = true) (p0 : 0 ≤ pol) (p3 : pol ≤ 3) (s0 : 0 ≤ spk) (s1 : spk ≤ 1024) : mayB W H l pol spk = true := by
  rw [mayB_good ⟨p0, p3⟩ ⟨s0, s1⟩]; exact h
end Go.Proofs.YtljfiefobnncaabDoor

/- outlinekeep: Kept. -/
namespace Go.Proofs.YtljfiefobnncaabDoor
open Go.RowKit
attribute [local go_sem ↓] Go.wp_at_zero Go.wp_at_succ

set_option maxRecDepth 4000 in
set_option maxHeartbeats 4000000 in
theorem kept_any (ao bo : Option Addr) (len cap blen bcap : Nat) (a h : Int) (w : World) (hraw : RawB ao len w) (hlen : len ≤ 1048576) (hbits : RawIs bo blen w) (hblen : blen ≤ 140737488355328) (a1 : -9223372036854775808 ≤ a) (a2 : a ≤ 9223372036854775807) (h1 : -9223372036854775808 ≤ h) (h2 : h ≤ 9223372036854775807) :
    Calls Tryd.prog 3 #[.slice ao len cap, .slice bo blen bcap, .int .i64 a, .int .i64 h] w fun e w' => e = .returned (.bool true) ∧ Below w.heap.size w w' := by
  have RW := hid hraw
  have RB := hid hbits
  clear hraw hbits
  go_enter Tryd.func3, Tryd.ntmps3
  go_wp2_with fail
  refine (traces_any _).mono ?_
  rintro e w1 ⟨rfl, hb⟩
  have B1 := hid (show Below w.heap.size w w1 from hb)
  clear hb
  go_wp2_with fail
  refine (built_most 16 (by omega) (by omega) bo blen bcap a h _ (rawIs_onK RB.out B1.out) hblen a1 a2 h1 h2).mono ?_
  rintro e w2 ⟨⟨W, H, l, rfl, W1, W2', H1, H2', hl, hall⟩, hb⟩
  have W2 : W ≤ 32 := by omega
  have H2 : H ≤ 32 := by omega
  have MAY := hid (fun (pol : Nat) (hp : pol ≤ 3) => show mayB W H (⟨l.toArray⟩ : ByteArray).data.toList pol 0 = true from may_ofK (good_ofK W1 W2 H1 H2 hl hall) (by omega) (by omega) (by omega) (by omega))
  have HL := hid (show (⟨l.toArray⟩ : ByteArray).size = W * H from hl)
  have B2 := hid (show Below w.heap.size w w2 from B1.out.trans (hb.mono B1.out.size))
  clear hall hl hb RB
  obtain ⟨s, hs⟩ : ∃ s : ByteArray, s = ⟨l.toArray⟩ := ⟨_, rfl⟩
  rw [← hs] at MAY HL ⊢
  clear hs
  have B3 := hid (show Below w.heap.size w (w2.alloc (.cells #[.int .i64 W, .int .i64 H, .string s] 25)) from B2.out.alloc B2.out.size _)
  go_wp2_with fail
  refine (trace_yes W H s 0 ⟨#[]⟩ 0 _ (MAY.out 0 (by omega)) W2 H2 HL.out (by omega) (by omega) (by omega)).mono ?_
  rintro e w5 ⟨vm, rfl, R, Lm, hR5, hLm, hRow5, hRn, hb5⟩
  have B5 := hid (B3.out.trans (hb5.mono B3.out.size))
  have LMP := hid (show ∀ p ∈ Lm, 0 < p.2.length ∧ p.2.length ≤ 4356 ∧ Qm.Small p.2 from fun p hp => by
    have : p.2 ∈ Qm.polys (fB W H s 0 ⟨#[]⟩) 0 R := by rw [← hLm]; exact List.mem_map_of_mem hp
    unfold Qm.polys at this
    obtain ⟨c, hc, e⟩ := List.mem_map.1 this
    have hcy := (hR5.1 c (List.mem_filter.1 hc).1).1
    have h1 := Qm.cornL_le (Qm.ptsOf (fB W H s 0 ⟨#[]⟩) c)
    have h3 := cyc_le W2 H2 hcy
    rw [Qm.ptsOf_len] at h1
    rw [← e]; exact ⟨Qm.cornL_pos (by rw [Qm.ptsOf_len]; exact hcy.2.1), by omega, Qm.cornL_small (small_pts W2 H2 hcy)⟩)
  have LMN := hid (show Lm.length ≤ 1200 by
    have h1 := congrArg List.length hLm
    unfold Qm.polys at h1
    simp only [List.length_map] at h1
    have := List.length_filter_le (Qm.bigB (fB W H s 0 ⟨#[]⟩) 0) R
    omega)
  have FM := hid (show Fine Lm from ⟨by have := LMN.out; omega, by have := ptN_le (fun p hp => (LMP.out p hp).2.1); have := LMN.out; omega, fun p hp => ⟨(LMP.out p hp).1, (LMP.out p hp).2.2⟩⟩)
  have SHM := hid (hRow5.shown fun p hp => (LMP.out p hp).1)
  obtain ⟨am, cm, rfl⟩ := own_len hRow5.row
  obtain ⟨nm, hnm⟩ : ∃ nm, nm = Lm.length := ⟨_, rfl⟩
  rw [← hnm] at SHM ⊢
  clear hnm hR5 hLm hRow5 hRn hb5 LMP LMN MAY HL B1 B2 B3
  have KS := hid (keepShapes_any ao len cap _ (RW.out.on B5.out) hlen)
  go_wp2_with fail
  refine KS.out.mono ?_
  rintro e w6 ⟨⟨vl, rfl, L, hRow6, hLn, hLs, hLp⟩, hb6⟩
  have FL := hid (show Fine L from ⟨by omega, by omega, hLp⟩)
  have SHL := hid (hRow6.shown fun p hp => (hLp p hp).1)
  have SHM6 := hid (SHM.out.on hb6)
  have B6 := hid (B5.out.trans (hb6.mono B5.out.size))
  obtain ⟨al, cl, rfl⟩ := own_len hRow6.row
  obtain ⟨n, hn⟩ : ∃ n, n = L.length := ⟨_, rfl⟩
  rw [← hn] at SHL ⊢
  clear hn hRow6 hLn hLs hLp hb6 KS SHM
  have PF := hid (path_fine al n cl L FL.out _ SHL.out)
  obtain ⟨S, hS⟩ : ∃ S : ByteArray, S = ⟨(Pm.pathL (L.map (·.2))).toArray⟩ := ⟨_, rfl⟩
  have SD := hid (show S.data.toList = Pm.pathL (L.map (·.2)) by rw [hS])
  have SZ := Pm.size_of_data S _ SD.out
  have SZ2 : S.size ≤ 62000000 := by rw [SZ]; exact FL.out.len
  have SY := hid (show Pm.Says S.data.toList (Pm.st0 S.data.toList) (.ok (L.map (·.2))) by rw [hS]; exact FL.out.back)
  rw [← hS] at PF
  clear hS SZ
  go_wp2_with fail
  refine PF.out.mono ?_
  rintro e w7 ⟨rfl, hb7⟩
  have SHL7 := hid (SHL.out.on hb7)
  have SHM7 := hid (SHM6.out.on hb7)
  have B7 := hid (B6.out.trans (hb7.mono B6.out.size))
  clear hb7 PF SHL SHM6
  go_wp2_with fail
  refine (shapes_says S (by omega) _ SY.out _).mono ?_
  rintro e w8 ⟨⟨vx, La, rfl, hLa, eLa⟩, hb8⟩
  have SHL8 := hid (SHL7.out.on hb8)
  have SHM8 := hid (SHM7.out.on hb8)
  have B8 := hid (B7.out.trans (hb8.mono B7.out.size))
  have SF := hid (same_fine eLa FL.out hLa SHL8.out)
  obtain ⟨ax, cx, rfl, -⟩ := hLa.row
  obtain ⟨nx, hnx⟩ : ∃ nx, nx = La.length := ⟨_, rfl⟩
  rw [← hnx] at SF ⊢
  clear hnx hb8 SHL7 SHM7 SY hLa eLa
  go_wp2_with fail
  refine SF.out.mono ?_
  rintro e w9 ⟨rfl, hb9⟩
  have SHL9 := hid (SHL8.out.on hb9)
  have SHM9 := hid (SHM8.out.on hb9)
  have B9 := hid (B8.out.trans (hb9.mono B8.out.size))
  clear hb9 SHL8 SHM8 SF
  go_wp2_with fail
  go_loopw [20, 21] (fun tv iv wr => ∃ (k : Nat) (F : ByteArray), k ≤ S.size ∧ iv = .int .i64 k ∧ tv = .string F ∧ F.size ≤ 3 * k ∧ Hid (F.data.toList = Pm.insL (S.data.toList.take k)) ∧ wr = w9) (fun _ i _ => S.size - (intOf i).toNat)
  case atStart => exact ⟨0, _, by omega, rfl, rfl, Nat.le_refl 0, show _ = _ from rfl, by trivial⟩
  case round =>
    obtain ⟨k, F, hk, rfl, rfl, hFs, hF, rfl⟩ := hrel
    by_cases hlt : k < S.size
    · have ST := hid (ins_step hlt hF.out)
      have s1 : ¬ 9223372036854775807 < F.size + 2 := by omega
      have s2 : ¬ 9223372036854775807 < F.size + 2 + 1 := by omega
      have s3 : ¬ 9223372036854775807 < F.size + 1 := by omega
      by_cases q1 : (S[k].toNat : Int) = 76
      · have D := hid (ST.out.1 (.inl q1))
        go_wp2
        go_roundw
        case rel => exact ⟨k + 1, _, by omega, by go_num, rfl, by simp only [ByteArray.size_append]; show _ + 2 + _ ≤ _; simp; omega, D, by trivial⟩
        case measure => simp [intOf]; omega
      have b1 : ((S[k].toNat : Int) == 76) = false := beq_eq_false_iff_ne.2 q1
      by_cases q2 : (S[k].toNat : Int) = 77
      · have D := hid (ST.out.1 (.inr (.inl q2)))
        go_wp2
        go_roundw
        case rel => exact ⟨k + 1, _, by omega, by go_num, rfl, by simp only [ByteArray.size_append]; show _ + 2 + _ ≤ _; simp; omega, D, by trivial⟩
        case measure => simp [intOf]; omega
      have b2 : ((S[k].toNat : Int) == 77) = false := beq_eq_false_iff_ne.2 q2
      by_cases q3 : (S[k].toNat : Int) = 122
      · have D := hid (ST.out.1 (.inr (.inr q3)))
        go_wp2
        go_roundw
        case rel => exact ⟨k + 1, _, by omega, by go_num, rfl, by simp only [ByteArray.size_append]; show _ + 2 + _ ≤ _; simp; omega, D, by trivial⟩
        case measure => simp [intOf]; omega
      have b3 : ((S[k].toNat : Int) == 122) = false := beq_eq_false_iff_ne.2 q3
      have D := hid (ST.out.2 (fun e => e.elim q1 fun e => e.elim q2 q3))
      go_wp2
      go_roundw
      case rel => exact ⟨k + 1, _, by omega, by go_num, rfl, by simp only [ByteArray.size_append]; simp; omega, D, by trivial⟩
      case measure => simp [intOf]; omega
    · have ek : k = S.size := by omega
      have FW := hid (show Pm.Says (F ++ ⟨#[10]⟩ : ByteArray).data.toList (Pm.st0 (F ++ ⟨#[10]⟩ : ByteArray).data.toList) (.ok (L.map (·.2))) from FL.out.wide (by
        rw [ByteArray.data_append, Array.toList_append, hF.out, ek, List.take_of_length_le (by simp), SD.out]))
      have fz : (F ++ ⟨#[10]⟩ : ByteArray).size ≤ 1073741824 := by rw [ByteArray.size_append]; show _ + 1 ≤ _; omega
      have SS := hid (fun W => shapes_says (F ++ ⟨#[10]⟩) fz _ FW.out W)
      have s3 : ¬ 9223372036854775807 < F.size + 1 := by omega
      have hk' : ((S.size : Nat) : Int) ≤ (k : Nat) := by omega
      clear fz FW ek
      go_wp2_with fail
      refine (SS.out _).mono ?_
      rintro e w10 ⟨⟨vy, Lb, rfl, hLb, eLb⟩, hb10⟩
      have SHL10 := hid (SHL9.out.on hb10)
      have SHM10 := hid (SHM9.out.on hb10)
      have B10 := hid (B9.out.trans (hb10.mono B9.out.size))
      have SF := hid (same_fine eLb FL.out hLb SHL10.out)
      obtain ⟨ay, cy, rfl, -⟩ := hLb.row
      obtain ⟨ny, hny⟩ : ∃ ny, ny = Lb.length := ⟨_, rfl⟩
      rw [← hny] at SF ⊢
      clear hny hb10 hLb eLb
      go_wp2_with fail
      refine SF.out.mono ?_
      rintro e w11 ⟨rfl, hb11⟩
      have SHM11 := hid (SHM10.out.on hb11)
      have B11 := hid (B10.out.trans (hb11.mono B10.out.size))
      clear hb11 SF
      have PG := hid (path_fine am nm cm Lm FM.out _ SHM11.out)
      obtain ⟨T, hT⟩ : ∃ T : ByteArray, T = ⟨(Pm.pathL (Lm.map (·.2))).toArray⟩ := ⟨_, rfl⟩
      have TD := hid (show T.data.toList = Pm.pathL (Lm.map (·.2)) by rw [hT])
      have TZ := Pm.size_of_data T _ TD.out
      have TZ2 : T.size ≤ 62000000 := by rw [TZ]; exact FM.out.len
      have TY := hid (show Pm.Says T.data.toList (Pm.st0 T.data.toList) (.ok (Lm.map (·.2))) by rw [hT]; exact FM.out.back)
      rw [← hT] at PG
      clear hT TZ
      go_wp2_with fail
      refine PG.out.mono ?_
      rintro e w12 ⟨rfl, hb12⟩
      have SHM12 := hid (SHM11.out.on hb12)
      have B12 := hid (B11.out.trans (hb12.mono B11.out.size))
      clear hb12
      go_wp2_with fail
      refine (shapes_says T (by omega) _ TY.out _).mono ?_
      rintro e w13 ⟨⟨vz, Lc, rfl, hLc, eLc⟩, hb13⟩
      have SHM13 := hid (SHM12.out.on hb13)
      have B13 := hid (B12.out.trans (hb13.mono B12.out.size))
      have SG := hid (same_fine eLc FM.out hLc SHM13.out)
      obtain ⟨az, cz, rfl, -⟩ := hLc.row
      obtain ⟨nz, hnz⟩ : ∃ nz, nz = Lc.length := ⟨_, rfl⟩
      rw [← hnz] at SG ⊢
      clear hnz hb13 hLc eLc
      go_wp2_with fail
      refine SG.out.mono ?_
      rintro e w14 ⟨rfl, hb14⟩
      have B14 := hid (B13.out.trans (hb14.mono B13.out.size))
      clear hb14
      go_wp2
      go_ret
      exact ⟨rfl, B14.out⟩
end Go.Proofs.YtljfiefobnncaabDoor
