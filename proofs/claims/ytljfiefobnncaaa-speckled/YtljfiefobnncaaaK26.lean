import Derived.Test.YtljfiefobnncaaaK24
import Derived.Test.YtljfiefobnncaaaK23
import Derived.Test.YtljfiefobnncaaaK25
import Derived.Test.YtljfiefobnncaaaK19
import Derived.Test.YtljfiefobnncaaaK02

/- built: a bitmap out of raw numbers, of at most so many pixels a side. -/
namespace Go.Proofs.Ytljfiefobnncaaa
open Go.RowKit

set_option maxRecDepth 4000 in
set_option maxHeartbeats 2000000 in
theorem built_most (most : Nat) (hm1 : 1 ≤ most) (hm2 : most ≤ 32) (ao : Option Addr) (len cap : Nat) (a h : Int) (w : World) (hraw : RawIs ao len w) (hlen : len ≤ 140737488355328) (a1 : -9223372036854775808 ≤ a) (a2 : a ≤ 9223372036854775807) (h1 : -9223372036854775808 ≤ h) (h2 : h ≤ 9223372036854775807) :
    Calls Try.prog 14 #[.slice ao len cap, .int .i64 a, .int .i64 h, .int .i64 most] w fun e w' => (∃ (W H : Nat) (l : List UInt8), e = .returned (.agg #[.int .i64 W, .int .i64 H, .string ⟨l.toArray⟩]) ∧ 1 ≤ W ∧ W ≤ most ∧ 1 ≤ H ∧ H ≤ most ∧ l.length = W * H ∧ l.all Pm.okPix = true) ∧ Below w.heap.size w w' := by
  obtain ⟨i0, hi, hz0, hz1, hz2⟩ := info_parts infoByte
  go_enter Try.func14, Try.ntmps14
  go_wp2_with fail
  refine (pick_any a most a1 a2 hm1 hm2 _).mono ?_
  rintro e w1 ⟨⟨r1, rfl, hr1⟩, rfl⟩
  go_wp2_with fail
  refine (pick_any h most h1 h2 hm1 hm2 _).mono ?_
  rintro e w1 ⟨⟨r2, rfl, hr2⟩, rfl⟩
  go_wp2
  have hraw2 := hid hraw
  clear hraw
  obtain ⟨W, hW⟩ : ∃ W, W = 1 + r1 := ⟨_, rfl⟩
  obtain ⟨H, hH⟩ : ∃ H, H = 1 + r2 := ⟨_, rfl⟩
  have eW : (1 : Int) + (r1 : Int) = (W : Nat) := by omega
  have eH : (1 : Int) + (r2 : Int) = (H : Nat) := by omega
  have W1 : 1 ≤ W := by omega
  have W2m : W ≤ most := by omega
  have W2 : W ≤ 32 := by omega
  have H1 : 1 ≤ H := by omega
  have H2m : H ≤ most := by omega
  have H2 : H ≤ 32 := by omega
  simp only [eW, eH]
  clear eW eH hW hH hr1 hr2
  obtain ⟨t, ht⟩ : ∃ t, t = W * H := ⟨_, rfl⟩
  have et : (W : Int) * (H : Int) = (t : Nat) := by rw [ht]; simp
  have t1 : 1 ≤ t := by rw [ht]; exact Nat.mul_le_mul W1 H1
  have t2 : t ≤ 1024 := by rw [ht]; exact Nat.mul_le_mul W2 H2
  have T := hid ht
  clear ht
  obtain ⟨X, hX⟩ : ∃ X, X = (w.alloc (.cells #[.int .i64 0, .int .i64 0, .string ⟨#[]⟩] 23)).alloc (.cells #[.int .i64 W, .int .i64 H, .string ⟨#[]⟩] 23) := ⟨_, rfl⟩
  have Xs : X.heap.size = w.heap.size + 2 := by rw [hX]; simp
  have Xb : Below w.heap.size w X := by rw [hX]; exact ((Below.refl _ _).alloc (Nat.le_refl _) _).alloc (by simp) _
  have Y := Box3.new w (.int .i64 0) (.int .i64 0) (.string ⟨#[]⟩) 23 |>.alloc (.cells #[.int .i64 W, .int .i64 H, .string ⟨#[]⟩] 23)
  have Z := Box3.new (w.alloc (.cells #[.int .i64 0, .int .i64 0, .string ⟨#[]⟩] 23)) (.int .i64 W) (.int .i64 H) (.string ⟨#[]⟩) 23
  rw [← hX] at Y Z
  rw [← hX]
  have XS := hid Xs
  have XB := hid Xb
  have YH := hid Y
  have ZH := hid Z
  clear hX Xs Xb Y Z
  go_loopw [10, 11] (fun v i wr => ∃ (l : List UInt8), i = .int .i64 l.length ∧ l.length ≤ t ∧ Hid (l.all Pm.okPix = true) ∧ wr.ownsRow (w.heap.size + 2) 5 1 v l.length (cellsOf l) ∧ Below (w.heap.size + 2) X wr) (fun _ i _ => t - (intOf i).toNat)
  case atStart => exact ⟨[], rfl, by simp, rfl, World.ownsRow_nil _ _ _ _, Below.refl _ _⟩
  case round =>
    obtain ⟨l, rfl, hlt0, hall, hown, hnx⟩ := hrel
    have hsz : w.heap.size + 2 ≤ wr.heap.size := by have := hnx.size; have := XS.out; omega
    have hnx2 : Below X.heap.size X wr := hnx.mono (by rw [XS.out]; omega)
    obtain ⟨⟨y0, y1, y2⟩, ⟨g0, g1, g2⟩, yB, yz⟩ := YH.out.on hnx2
    obtain ⟨⟨z0, z1, z2⟩, ⟨j0, j1, j2⟩, zB, zz⟩ := ZH.out.on hnx2
    simp at z0 z1 z2 j0 j1 j2 zz
    have HB := hid yB
    have HN := hid hnx2
    clear yB zB hnx2
    by_cases hlt : l.length < t
    · by_cases hq : l.length / 16 < len
      · rcases hraw2.out with hl0 | ⟨b, off, rfl, hb0, hcell⟩
        · omega
        · obtain ⟨z, hz⟩ := hcell (l.length / 16) hq
          have hzr : wr.cell? ⟨b, off + l.length / 16, none⟩ = some (.int .i64 z) := ((HN.out.mono (by rw [XS.out]; omega)).cell (p := ⟨b, off + l.length / 16, none⟩) (show b < w.heap.size from hb0)).trans ((XB.out.cell (p := ⟨b, off + l.length / 16, none⟩) hb0).trans hz)
          clear hz hcell
          obtain ⟨bit, hbit, hbe⟩ := and_one_i64 (z / 2 ^ (l.length % 16))
          have BV : (UInt8.ofNat (48 + bit)).toNat = 48 + bit := by simp only [UInt8.toNat_ofNat']; omega
          have BO : Hid (Pm.okPix (UInt8.ofNat (48 + bit)) = true) := Pm.okPix_of _ (by rw [BV]; omega)
          have BVH := hid BV
          clear BV
          go_wp2_with (first
            | (at_builtin; refine wpList_append_own _ rfl _ _ 76 rfl (w.heap.size + 2) 5 i0 (.int .u8 0) 1 1 Try.underlying76 hi hz0 hz1 hz2 rfl (by decide) _ _ _ rfl (hown.alloc _) ⟨_, 0, none⟩ 1 1 [.int .u8 (48 + (bit : Int))] rfl rfl ?c1 ?c2 ?c3 ?c4 ?c5 ?_))
          case c1 =>
            intro j' u hj'
            match j', hj' with
            | 0, hj' => simp at hj'; subst hj'; simp [Addr.add]
          case c2 => intro u hu; simp at hu; subst hu; rfl
          case c3 => unfold maxLen; omega
          case c4 => omega
          case c5 => simp; omega
          · intro v' w3 hown' hgrow _
            have hb : Below (w.heap.size + 2) X w3 := (hnx.alloc (by omega) _).grown hgrow (by simp; omega) (fun k hk => (hown.lt k hk).1)
            have ho : w3.ownsRow (w.heap.size + 2) 5 1 v' (l ++ [UInt8.ofNat (48 + bit)]).length (cellsOf (l ++ [UInt8.ofNat (48 + bit)])) := by rw [cellsOf_snoc, List.length_append, BVH.out]; exact hown'
            clear hown' hgrow hown
            go_wp2
            go_roundw
            case rel => exact ⟨l ++ [UInt8.ofNat (48 + bit)], by simp, by simp; omega, by show _ = _; rw [List.all_append, hall.out]; simp only [List.all_cons, List.all_nil, Bool.and_true, Bool.true_and]; exact BO.out, ho, hb⟩
            case measure => simp [intOf]; omega
      · go_wp2_with (first
          | (at_builtin; refine wpList_append_own _ rfl _ _ 76 rfl (w.heap.size + 2) 5 i0 (.int .u8 0) 1 1 Try.underlying76 hi hz0 hz1 hz2 rfl (by decide) _ _ _ rfl (hown.alloc _) ⟨_, 0, none⟩ 1 1 [.int .u8 48] rfl rfl ?c1 ?c2 ?c3 ?c4 ?c5 ?_))
        case c1 =>
          intro j' u hj'
          match j', hj' with
          | 0, hj' => simp at hj'; subst hj'; simp [Addr.add]
        case c2 => intro u hu; simp at hu; subst hu; rfl
        case c3 => unfold maxLen; omega
        case c4 => omega
        case c5 => simp; omega
        · intro v' w3 hown' hgrow _
          have hb : Below (w.heap.size + 2) X w3 := (hnx.alloc (by omega) _).grown hgrow (by simp; omega) (fun k hk => (hown.lt k hk).1)
          have ho : w3.ownsRow (w.heap.size + 2) 5 1 v' (l ++ [48]).length (cellsOf (l ++ [48])) := by rw [cellsOf_snoc, List.length_append, show (48 : UInt8).toNat = 48 from rfl]; exact hown'
          clear hown' hgrow hown
          go_wp2
          go_roundw
          case rel => exact ⟨l ++ [48], by simp, by simp; omega, by show _ = _; rw [List.all_append, hall.out]; simp only [List.all_cons, List.all_nil, Bool.and_true, Bool.true_and]; exact rfl, ho, hb⟩
          case measure => simp [intOf]; omega
    · have hB1 : 0 < l.length := by omega
      have LT := hid (show l.length = W * H by rw [← T.out]; omega)
      rcases hown.2 with ⟨-, h0⟩ | ⟨g, cap, cur, rfl, -, -, -, -, -, -⟩
      · omega
      · have hcv := run_convert_bytes_back (P := Try.prog) wr 76 9 5 ⟨g, 0, none⟩ cap l Try.underlying76 Try.underlying5 Try.underlying9 (fun j hj => hown.cells (g := g) rfl j _ (by simp [cellsOf, hj]))
        go_wp2
        refine bodyPost_ret (v := .agg #[.int .i64 W, .int .i64 H, .string ⟨l.toArray⟩]) (by simp [results, Try.results14, go_sem, y0, y1, y2]) rfl ?_
        exact ⟨⟨W, H, l, rfl, W1, W2m, H1, H2m, LT.out, hall.out⟩, (((HB.out.setCell (by simp) _).setCell (by simp) _).setCell (by simp) _).setCell (by simp) _⟩
end Go.Proofs.Ytljfiefobnncaaa

/- pick, of up to 2000 things. -/
namespace Go.Proofs.Ytljfiefobnncaaa
open Go.RowKit

set_option maxHeartbeats 400000 in
theorem pick_big (c : Int) (n : Nat) (c1 : -9223372036854775808 ≤ c) (c2 : c ≤ 9223372036854775807) (n1 : 1 ≤ n) (n2 : n ≤ 2000) (w : World) :
    Calls Try.prog 29 #[.int .i64 c, .int .i64 n] w fun e w' => (∃ r : Nat, e = .returned (.int .i64 r) ∧ r < n) ∧ w' = w := by
  by_cases h : c < 0
  · have e1 : -(c + 1).tmod (n : Int) = ((((-(c + 1)) % (n : Int)).toNat : Nat) : Int) := by
      rw [← Int.neg_tmod, Int.tmod_eq_emod_of_nonneg (by omega)]
      have := Int.emod_nonneg (-(c + 1)) (show (n : Int) ≠ 0 by omega)
      omega
    have e2 : ((-(c + 1)) % (n : Int)).toNat < n := by
      have := Int.emod_nonneg (-(c + 1)) (show (n : Int) ≠ 0 by omega)
      have := Int.emod_lt_of_pos (-(c + 1)) (show (0 : Int) < n by omega)
      omega
    have E1 : Hid _ := e1
    have E2 : Hid _ := e2
    clear e1 e2
    go_enter Try.func29, Try.ntmps29
    go_wp2
    go_ret
    exact ⟨⟨_, ret_int E1.out, E2.out⟩, rfl⟩
  · have e1 : c % (n : Int) = (((c % (n : Int)).toNat : Nat) : Int) := by
      have := Int.emod_nonneg c (show (n : Int) ≠ 0 by omega)
      omega
    have e2 : (c % (n : Int)).toNat < n := by
      have := Int.emod_nonneg c (show (n : Int) ≠ 0 by omega)
      have := Int.emod_lt_of_pos c (show (0 : Int) < n by omega)
      omega
    have E1 : Hid _ := e1
    have E2 : Hid _ := e2
    clear e1 e2
    go_enter Try.func29, Try.ntmps29
    go_wp2
    go_ret
    exact ⟨⟨_, ret_int E1.out, E2.out⟩, rfl⟩
end Go.Proofs.Ytljfiefobnncaaa

/- outlinekeep: Speckled. -/
namespace Go.Proofs.Ytljfiefobnncaaa
open Go.RowKit
attribute [local go_sem ↓] Go.wp_at_zero Go.wp_at_succ

theorem shpP_row {b : Nat} {t : TypeId} {vl : Value} {L : List (Value × List (Int × Int))} {w : World} (h : w.ownsRow b t 2 vl L.length (shpP L)) (hp : ∀ p ∈ L, ∃ g cap, p.1 = .slice (some ⟨g, 0, none⟩) p.2.length cap ∧ 0 < p.2.length ∧ PtsAt g p.2 w) : ShownP vl L w := by
  refine ⟨?_, hp⟩
  obtain ⟨ao, cap, e⟩ := own_len h
  refine ⟨ao, cap, e, ?_⟩
  rcases h.2 with ⟨_, h0⟩ | ⟨g, cap', cur, e', _, hg, _⟩
  · exact .inl h0
  · right
    have e2 : ao = some ⟨g, 0, none⟩ := by rw [e] at e'; injection e'
    refine ⟨g, e2, (Array.getElem?_eq_some_iff.1 hg).1, fun j u hu => ?_⟩
    have := h.cells (g := g) (by rw [e']; rfl) j u hu
    rwa [add_zero_at] at this

/-- What stands at the shape number i. -/
theorem ShownP.at {al : Option Addr} {cl n : Nat} {L : List (Value × List (Int × Int))} {X : World} (h : ShownP (.slice al n cl) L X) {gl : Nat} (hc : ∀ j u, (shpP L)[j]? = some u → X.cell? ⟨gl, j, none⟩ = some u) {i : Nat} (hi : i < L.length) :
    ∃ g c, L[i].1 = .slice (some ⟨g, 0, none⟩) L[i].2.length c ∧ 0 < L[i].2.length ∧ PtsAt g L[i].2 X ∧ X.cell? ⟨gl, i * 2, none⟩ = some (.slice (some ⟨g, 0, none⟩) L[i].2.length c) ∧ X.cell? ⟨gl, i * 2 + 1, none⟩ = some (.int .i64 (Qm.twiceOf L[i].2)) := by
  obtain ⟨g, c, e, h0, hp⟩ := h.pts L[i] (List.getElem_mem hi)
  have s := shpP_at L i hi
  have s1 := hc _ _ s.1
  have s2 := hc _ _ s.2
  rw [e] at s1
  exact ⟨g, c, e, h0, hp, s1, s2⟩

theorem big_no {r tw : Int} (h : false = decide (2 * r < Qm.absZ tw)) : ¬ 2 * r < tw ∧ ¬ tw < -2 * r := by
  have := of_decide_eq_false h.symm
  unfold Qm.absZ at this
  split at this <;> omega
theorem big_yes {r tw : Int} (h : true = decide (2 * r < Qm.absZ tw)) : 2 * r < tw ∨ (¬ 2 * r < tw ∧ tw < -2 * r) := by
  have := of_decide_eq_true h.symm
  unfold Qm.absZ at this
  split at this <;> omega
theorem RowP.keep {b : Nat} {vl : Value} {L : List (Value × List (Int × Int))} {w w' : World} (h : RowP b vl L w) {g : Nat} (hg : g < b) (hb : w.grownBy w' (some g)) : RowP b vl L w' :=
  ⟨own_keep h.row hg hb, fun p hp => own_keep (h.pts p hp) hg hb, h.apart⟩
theorem Rowed.rowPk {f : Qm.Sd → Qm.Sd} {b : Nat} {vl : Value} {L : List (Value × (Qm.Sd × Nat))} {w : World} (h : Rowed f b vl L w) : RowP b vl (L.map fun p => (p.1, Qm.ptsOf f p.2)) w := by
  refine ⟨?_, ?_, ?_⟩
  · have e : shpP (L.map fun p => (p.1, Qm.ptsOf f p.2)) = shpV f L := by simp [shpP, shpV, List.flatMap_map]
    rw [e, List.length_map]; exact h.row
  · intro q hq
    obtain ⟨p, hp, rfl⟩ := List.mem_map.1 hq
    have := h.pts p hp
    simp only [Qm.ptsOf_len]; exact this
  · have := h.apart
    simpa [List.map_map, Function.comp_def] using this

set_option maxRecDepth 4000 in
set_option maxHeartbeats 4000000 in
theorem speckled_any (ao : Option Addr) (len cap : Nat) (a h p sp : Int) (draws : ByteArray) (w : World) (hraw : RawIs ao len w) (hlen : len ≤ 140737488355328) (a1 : -9223372036854775808 ≤ a) (a2 : a ≤ 9223372036854775807) (h1 : -9223372036854775808 ≤ h) (h2 : h ≤ 9223372036854775807) (p1 : -9223372036854775808 ≤ p) (p2 : p ≤ 9223372036854775807) (sp1 : -9223372036854775808 ≤ sp) (sp2 : sp ≤ 9223372036854775807) :
    Calls Try.prog 8 #[.slice ao len cap, .int .i64 a, .int .i64 h, .int .i64 p, .string draws, .int .i64 sp] w fun e w' => e = .returned (.bool true) ∧ Below w.heap.size w w' := by
  obtain ⟨i0, hi, hz0, hz1, hz2⟩ := info_parts infoShape
  have RW := hid hraw
  clear hraw
  go_enter Try.func8, Try.ntmps8
  go_wp2_with fail
  refine (traces_any _).mono ?_
  rintro e w1 ⟨rfl, hb⟩
  have B1 := hid (show Below w.heap.size w w1 from hb)
  clear hb
  go_wp2_with fail
  refine (built_most 20 (by omega) (by omega) ao len cap a h _ (RW.out.on B1.out) hlen a1 a2 h1 h2).mono ?_
  rintro e w2 ⟨⟨W, H, l, rfl, W1, W2', H1, H2', hl, hall⟩, hb⟩
  have W2 : W ≤ 32 := by omega
  have H2 : H ≤ 32 := by omega
  have MAY := hid (fun (pol : Nat) (hp : pol ≤ 3) (spk : Int) (s0 : 0 ≤ spk) (s1 : spk ≤ 1024) => show mayB W H (⟨l.toArray⟩ : ByteArray).data.toList pol spk = true from may_of (good_of W1 W2 H1 H2 hl hall) (by omega) (by omega) s0 s1)
  have HL := hid (show (⟨l.toArray⟩ : ByteArray).size = W * H from hl)
  have B2 := hid (show Below w.heap.size w w2 from B1.out.trans (hb.mono B1.out.size))
  clear hall hl hb RW
  obtain ⟨s, hs⟩ : ∃ s : ByteArray, s = ⟨l.toArray⟩ := ⟨_, rfl⟩
  rw [← hs] at MAY HL ⊢
  clear hs
  go_wp2_with fail
  refine (options_any p draws p1 p2 _).mono ?_
  rintro e w3 ⟨⟨pol, rfl, hpol⟩, hb⟩
  have X0 := hid ((Box3.new w2 (.int .i64 W) (.int .i64 H) (.string s) 23).on hb)
  have Y0 := hid ((X0.out.alloc (.cells #[.int .i64 pol, .string draws, .int .i64 0] 25)))
  have O0 := hid (Box3.new w3 (.int .i64 pol) (.string draws) (.int .i64 0) 25)
  have k3 : w2.heap.size < w3.heap.size := X0.out.2.2.2
  have B3 := hid (show Below w.heap.size w w3 from B2.out.trans (X0.out.2.2.1.mono B2.out.size))
  clear hb
  obtain ⟨⟨y0, y1, y2⟩, -, -, -⟩ := X0.out
  go_wp2_with fail
  refine (cycles_yes W H s pol draws 0 _ (MAY.out pol hpol 0 (by omega) (by omega)) W2 H2 HL.out hpol).mono ?_
  rintro e w4 ⟨vl, rfl, L0, hR, hRow, hb4, hLn⟩
  have z4 := hb4.size
  simp at z4
  have RP4 := hid (hRow.rowPk.mono (b' := w3.heap.size + 1) (by simp))
  have Y4 := hid (Y0.out.on hb4)
  have O4 := hid (O0.out.on hb4)
  have RES := hid hR
  obtain ⟨R, hRR⟩ : ∃ R, R = L0.map (·.2) := ⟨_, rfl⟩
  obtain ⟨f, hf⟩ : ∃ f, f = fB W H s pol draws := ⟨_, rfl⟩
  obtain ⟨Lc, hLc⟩ : ∃ Lc, Lc = L0.map fun p => (p.1, Qm.ptsOf (fB W H s pol draws) p.2) := ⟨_, rfl⟩
  have ELC := hid (show Lc.map (·.2) = R.map (Qm.ptsOf f) by rw [hLc, hRR, hf]; simp)
  have LCN := hid (show Lc.length = R.length by rw [hLc, hRR]; simp)
  have hRn : R.length ≤ 1200 := by rw [hRR, List.length_map]; exact hLn
  rw [← hRR] at RES
  rw [← hLc] at RP4
  have HF := hid hf
  clear hR hRow hb4 y0 y1 y2 hRR hLc hLn hf
  obtain ⟨⟨y0, y1, y2⟩, -, -, -⟩ := Y4.out
  obtain ⟨⟨o0, o1, o2⟩, -, -, -⟩ := O4.out
  go_wp2_with fail
  refine (trace_yes W H s pol draws 0 _ (MAY.out pol hpol 0 (by omega) (by omega)) W2 H2 HL.out hpol (by omega) (by omega)).mono ?_
  rintro e w5 ⟨vm, rfl, R5, Lm, hR5, hLm, hRow5, -, hb5⟩
  obtain rfl := RES.out.unique hR5
  have z5 := hb5.size
  have RP5 := hid (hRow5.mono (b' := w3.heap.size + 1) (by omega))
  have Q5 := hid (RP4.out.on hb5)
  have Y5 := hid (Y4.out.on hb5)
  have O5 := hid (O4.out.on hb5)
  have PZ := hid (show Lm.map (·.2) = R.map fun c => Qm.cornL (Qm.ptsOf f c) by rw [hLm, HF.out]; exact Qm.polys_zero RES.out (Qm.pic_of W H s.data.toList W2 H2))
  clear hR5 hLm hRow5 hb5 y0 y1 y2 o0 o1 o2
  go_wp2_with fail
  refine (pick_big sp 1025 sp1 sp2 (by omega) (by omega) _).mono ?_
  rintro e w5' ⟨⟨r, rfl, hr⟩, e5⟩
  subst e5
  obtain ⟨⟨y0, y1, y2⟩, -, -, yz⟩ := Y5.out
  obtain ⟨⟨o0, o1, o2⟩, ⟨g0, g1, g2⟩, -, oz⟩ := O5.out
  have BS := hid (show Below w.heap.size w (w5'.setCell ⟨w3.heap.size, 2, none⟩ (.int .i64 r)) from (B3.out.trans ((O5.out.2.2.1).mono B3.out.size)).setCell (show w.heap.size ≤ w3.heap.size from B3.out.size) _)
  have GS := hid (show w5'.grownBy (w5'.setCell ⟨w3.heap.size, 2, none⟩ (.int .i64 r)) (some w3.heap.size) from set_grown (Below.refl _ _) ⟨w3.heap.size, 2, none⟩)
  have RS5 := hid (RP5.out.keep (by omega) GS.out)
  have QS5 := hid (Q5.out.keep (by omega) GS.out)
  have OC := hid (show (w5'.setCell ⟨w3.heap.size, 2, none⟩ (.int .i64 r)).cell? ⟨w3.heap.size, 2, none⟩ = some (.int .i64 r) from World.cell?_setCell_same _ _ _ o2)
  have oz' : w3.heap.size < (w5'.setCell ⟨w3.heap.size, 2, none⟩ (.int .i64 r)).heap.size := by rw [World.size_setCell]; exact oz
  go_wp2_with fail
  refine (trace_yes W H s pol draws r _ (MAY.out pol hpol r (by omega) (by omega)) W2 H2 HL.out hpol (by omega) (by omega)).mono ?_
  rintro e w6 ⟨vn, rfl, R6, Ln, hR6, hLn, hRow6, -, hb6⟩
  obtain rfl := RES.out.unique hR6
  have RP6 := hid (RS5.out.on hb6)
  have Q6 := hid (QS5.out.on hb6)
  have PN := hid (show Ln.map (·.2) = Qm.polys f r R by rw [hLn, HF.out])
  have B6 := hid (show Below w.heap.size w w6 from BS.out.trans (hb6.mono BS.out.size))
  have o6 := (hb6.cell (p := ⟨w3.heap.size, 2, none⟩) oz').trans OC.out
  have z6 : w3.heap.size < w6.heap.size := Nat.lt_of_lt_of_le oz' hb6.size
  have SM := hid (show ∀ c ∈ R, Qm.Small (Qm.ptsOf f c) ∧ c.2 ≤ 4356 ∧ 0 < c.2 from fun c hc => by rw [HF.out]; exact ⟨small_pts W2 H2 (RES.out.1 c hc).1, cyc_le W2 H2 (RES.out.1 c hc).1, (RES.out.1 c hc).1.2.1⟩)
  have LMP := hid (show ∀ p ∈ Lm, 0 < p.2.length from fun p hp => by
    have : p.2 ∈ R.map fun c => Qm.cornL (Qm.ptsOf f c) := by rw [← PZ.out]; exact List.mem_map_of_mem hp
    obtain ⟨c, hc, e⟩ := List.mem_map.1 this
    rw [← e]; exact Qm.cornL_pos (by rw [Qm.ptsOf_len]; exact (SM.out c hc).2.2))
  have LCP := hid (show ∀ p ∈ Lc, 0 < p.2.length from fun p hp => by
    have : p.2 ∈ R.map (Qm.ptsOf f) := by rw [← ELC.out]; exact List.mem_map_of_mem hp
    obtain ⟨c, hc, e⟩ := List.mem_map.1 this
    rw [← e, Qm.ptsOf_len]; exact (SM.out c hc).2.2)
  have LNP := hid (show ∀ p ∈ Ln, 0 < p.2.length ∧ p.2.length ≤ 4356 from fun p hp => by
    have : p.2 ∈ Qm.polys f r R := by rw [← PN.out]; exact List.mem_map_of_mem hp
    unfold Qm.polys at this
    obtain ⟨c, hc, e⟩ := List.mem_map.1 this
    have hc := (SM.out c (List.mem_filter.1 hc).1)
    have h1 := Qm.cornL_le (Qm.ptsOf f c)
    rw [Qm.ptsOf_len] at h1
    rw [← e]; exact ⟨Qm.cornL_pos (by rw [Qm.ptsOf_len]; exact hc.2.2), by omega⟩)
  have LNL := hid (show Ln.length ≤ 1200 by
    have h1 := congrArg List.length PN.out
    unfold Qm.polys at h1
    simp only [List.length_map] at h1
    have := List.length_filter_le (Qm.bigB f r) R
    omega)
  have SHN := hid (hRow6.shown fun p hp => (LNP.out p hp).1)
  have SHM := hid (RP6.out.shown LMP.out)
  have SHC := hid (Q6.out.shown LCP.out)
  have LMN := hid (show Lm.length = R.length by have := congrArg List.length PZ.out; simpa using this)
  clear hR6 hLn hRow6 hb6 y0 y1 y2 o0 o1 o2 g0 g1 g2 yz oz oz'
  obtain ⟨ac, cc, rfl, hrc⟩ := SHC.out.row
  obtain ⟨am, cm, rfl, hrm⟩ := SHM.out.row
  obtain ⟨n, hn⟩ : ∃ n, n = R.length := ⟨_, rfl⟩
  rw [LCN.out, ← hn] at hrc
  rw [LMN.out, ← hn] at hrm
  rw [LCN.out] at SHC
  rw [LMN.out] at SHM
  rw [LCN.out, LMN.out]
  rw [← hn] at hRn SHC SHM ⊢
  have HN := hid hn
  have HRC := hid hrc
  have HRM := hid hrm
  clear hn hrc hrm
  go_wp2_with fail
  go_loopw [22, 23] (fun lv iv wr => ∃ (i : Nat) (L : List (Value × List (Int × Int))), i ≤ n ∧ iv = .int .i64 i ∧ L.length ≤ i ∧ L.map (·.2) = Qm.polys f r (R.take i) ∧ (∀ p ∈ L, p ∈ Lm) ∧ wr.ownsRow w6.heap.size 43 2 lv L.length (shpP L) ∧ Below w6.heap.size w6 wr) (fun _ i _ => n - (intOf i).toNat)
  case atStart => exact ⟨0, [], by omega, rfl, by simp, rfl, fun p hp => by simp at hp, World.ownsRow_nil _ _ _ _, Below.refl _ _⟩
  case round =>
    obtain ⟨i, L, hin, rfl, hLi, hpl, hmem, hown, hb⟩ := hrel
    have HB := hid hb
    have OW := hid hown
    have PL := hid hpl
    have MEM := hid hmem
    have hz := hb.size
    by_cases hlt : i < n
    · obtain ⟨gc, rfl, hgc, hcc⟩ := HRC.out.resolve_left (by omega)
      obtain ⟨gm, rfl, hgm, hcm⟩ := HRM.out.resolve_left (by omega)
      have hlt' : (i : Int) < (n : Nat) := by omega
      have hiR : i < R.length := by rw [← HN.out]; exact hlt
      have hiC : i < Lc.length := by rw [LCN.out]; exact hiR
      have hiM : i < Lm.length := by rw [LMN.out]; exact hiR
      obtain ⟨g1, c1, v1, m1, p1', d0, d1⟩ := SHC.out.at hcc hiC
      obtain ⟨g2, c2, v2, m2, p2', e0, e1⟩ := SHM.out.at hcm hiM
      have PNX := hid (Qm.polys_next (f := f) (spk := r) hiR)
      have E1 : Lc[i].2 = Qm.ptsOf f R[i] := by
        have := congrArg (fun l => l[i]?) ELC.out
        simpa [hiC, hiR] using this
      have E2 : Lm[i].2 = Qm.cornL (Qm.ptsOf f R[i]) := by
        have := congrArg (fun l => l[i]?) PZ.out
        simpa [hiM, hiR] using this
      obtain ⟨sm, hle, _⟩ := SM.out R[i] (List.getElem_mem hiR)
      have tws := Qm.fsum_small sm (Qm.ptsOf f R[i]).length
      rw [← Qm.twiceOf_fsum, Qm.ptsOf_len] at tws
      have BG := hid (show Qm.bigB f r R[i] = decide (2 * (r : Int) < Qm.absZ (Qm.twiceOf (Qm.ptsOf f R[i]))) from rfl)
      have MM := hid (List.getElem_mem hiM)
      obtain ⟨pm, hpm⟩ : ∃ pm, pm = Lm[i] := ⟨_, rfl⟩
      rw [← hpm] at E2 v2 e0 e1 MM
      rw [E1] at d0 d1
      rw [← E2] at PNX
      obtain ⟨tw, htw⟩ : ∃ tw, tw = Qm.twiceOf (Qm.ptsOf f R[i]) := ⟨_, rfl⟩
      rw [← htw] at d1 tws BG
      obtain ⟨bg, hbg⟩ : ∃ bg, bg = Qm.bigB f r R[i] := ⟨_, rfl⟩
      rw [← hbg] at BG PNX
      obtain ⟨k1, hk1⟩ : ∃ k, k = (Qm.ptsOf f R[i]).length := ⟨_, rfl⟩
      rw [← hk1] at d0
      obtain ⟨k2, hk2⟩ : ∃ k, k = pm.2.length := ⟨_, rfl⟩
      rw [← hk2] at e0 v2
      obtain ⟨t2, ht2⟩ : ∃ t, t = Qm.twiceOf pm.2 := ⟨_, rfl⟩
      rw [← ht2] at e1
      have V2 := hid v2
      have HT2 := hid ht2
      have f0 := (hb.cell (p := ⟨gc, i * 2, none⟩) hgc).trans d0
      have f1 := (hb.cell (p := ⟨gc, i * 2 + 1, none⟩) hgc).trans d1
      have f2 := (hb.cell (p := ⟨gm, i * 2, none⟩) hgm).trans e0
      have f3 := (hb.cell (p := ⟨gm, i * 2 + 1, none⟩) hgm).trans e1
      have f4 := (hb.cell (p := ⟨w3.heap.size, 2, none⟩) (show w3.heap.size < _ from z6)).trans o6
      have hgm' : gm < wr.heap.size := by omega
      clear hb hown hpl hmem d0 d1 e0 e1 v1 v2 p1' p2' m1 m2 hcc hcm E1 E2 hpm htw hbg hk1 hk2 ht2 sm
      cases bg
      · obtain ⟨q1, q2⟩ := big_no BG.out
        have q1b : decide (2 * (r : Int) < tw) = false := by simpa using q1
        have q2b : decide (tw < -2 * (r : Int)) = false := by simpa using q2
        go_wp2_with fail
        go_quiet (fail)
        go_wp2
        go_roundw
        case rel => exact ⟨i + 1, L, by omega, by go_num, by omega, by rw [PNX.out]; exact PL.out, MEM.out, own_below OW.out ⟨rfl, rfl, rfl, Nat.le_refl _, fun _ _ => rfl⟩, HB.out.trans ⟨rfl, rfl, rfl, Nat.le_refl _, fun _ _ => rfl⟩⟩
        case measure => simp [intOf]; omega
      · have n1 : L.length + 1 ≤ maxLen := by unfold maxLen; omega
        have n2 : (L.length + 1) * 32 ≤ 140737488355328 := by omega
        rcases big_yes BG.out with q1 | ⟨q1, q2⟩
        all_goals first
          | (
            have _hq := q2
            clear _hq
            have q1b : decide (2 * (r : Int) < tw) = false := by simpa using q1
            have q2b : decide (tw < -2 * (r : Int)) = true := by simpa using q2
            go_wp2_with fail
            go_quiet (fail))
          | (
            have q1b : decide (2 * (r : Int) < tw) = true := by simpa using q1
            go_wp2_with fail
            go_quiet (fail))
        all_goals (
          have D1 : Below wr.heap.size wr (wr.drewN nq) := ⟨rfl, rfl, rfl, Nat.le_refl _, fun _ _ => rfl⟩
          have OW1 := hid (own_below OW.out D1)
          have HB1 := hid (HB.out.trans (D1.mono hz))
          obtain ⟨wq, hwq⟩ : ∃ wq, wq = wr.drewN nq := ⟨_, rfl⟩
          have zq : w6.heap.size ≤ wq.heap.size := by rw [hwq]; exact hz
          have r2 := (D1.cell (p := ⟨gm, i * 2, none⟩) hgm').trans f2
          have r3 := (D1.cell (p := ⟨gm, i * 2 + 1, none⟩) hgm').trans f3
          have hgq : gm < wq.heap.size := by rw [hwq]; exact hgm'
          rw [← hwq] at OW1 HB1 r2 r3 ⊢
          clear hwq D1 f0 f1 f2 f3 f4
          have n3 : w6.heap.size ≤ (wq.alloc (.cells #[.slice (some ⟨g2, 0, none⟩) k2 c2, .int .i64 t2] 43)).heap.size := by simp; omega
          go_wp2_with (first
            | (at_builtin; refine wpList_append_own_at _ rfl _ _ 35 rfl w6.heap.size 43 i0 (.agg #[.slice none 0 0, .int .i64 0]) 2 32 Try.underlying35 hi hz0 hz1 hz2 rfl (by decide) _ _ _ rfl (OW1.out.alloc _) ⟨_, 0, none⟩ 1 1 [.slice (some ⟨g2, 0, none⟩) k2 c2, .int .i64 t2] rfl rfl (vt_cells _ _ _ _ _ _ _ rfl) (vt_one _ _ _ _) n1 n2 n3 ?_))
          intro vl' w7 o7 g7 _ e7
          have B7 := hid (show Below w6.heap.size w6 w7 from ((HB1.out.alloc zq _).grown g7 n3 (fun q hq => (OW1.out.lt q hq).1)))
          have O7 := hid (show w7.ownsRow w6.heap.size 43 2 vl' (L ++ [pm]).length (shpP (L ++ [pm])) by
            rw [shpP_snoc, List.length_append, V2.out, ← HT2.out]; exact o7)
          clear o7 g7 e7
          go_wp2
          go_roundw
          case rel => exact ⟨i + 1, L ++ [pm], by omega, by go_num, by simp; omega, by rw [PNX.out, List.map_append, PL.out]; rfl, fun p hp => by
            rcases List.mem_append.1 hp with h | h
            · exact MEM.out p h
            · rw [List.mem_singleton.1 h]; exact MM.out, O7.out, B7.out⟩
          case measure => simp [intOf]; omega)
    · have ei : i = n := by omega
      subst ei
      have hlt' : ¬ (i : Int) < (i : Nat) := by omega
      have SHW := hid (shpP_row OW.out fun p hp => by
        obtain ⟨g, c, e, h0, h1⟩ := SHM.out.pts p (MEM.out p hp)
        exact ⟨g, c, e, h0, h1.on HB.out h1.1⟩)
      have SHN2 := hid (SHN.out.on HB.out)
      have EQ := hid (show Ln.map (·.2) = L.map (·.2) by rw [PN.out, PL.out, HN.out, List.take_length])
      clear hb hown hpl hmem
      go_wp2_with fail
      refine (sameShapes_any vn _ Ln L _ EQ.out SHN2.out SHW.out (by have := LNL.out; omega) (fun p hp => by have := (LNP.out p hp).2; omega)).mono ?_
      rintro e w8 ⟨rfl, hb8⟩
      have B8 := hid (show Below w.heap.size w w8 from (B6.out.trans (HB.out.mono B6.out.size)).trans (hb8.mono (Nat.le_trans B6.out.size HB.out.size)))
      clear hb8
      go_wp2
      go_ret
      exact ⟨rfl, B8.out⟩
end Go.Proofs.Ytljfiefobnncaaa

/- A picture that is moved has the same cycles and polygons, moved. Nothing of the program stands here. -/
namespace Go.Proofs.Ytljfiefobnncaaa.Qm
open Pm

section
variable (dx dy : Int)
def mvP (p : Int × Int) : Int × Int := (p.1 + dx, p.2 + dy)
def mvS (s : Sd) : Sd := (s.1 + dx, s.2.1 + dy, s.2.2)
def mvC (c : Sd × Nat) : Sd × Nat := (mvS dx dy c.1, c.2)
end
/-- The one picture is the other, moved. -/
def Mvd (dx dy : Int) (bl bl' : Int → Int → Bool) : Prop := ∀ x y, bl' (x + dx) (y + dy) = bl x y

section
variable {dx dy : Int} {bl bl' jn jn' : Int → Int → Bool}
theorem Mvd.at (h : Mvd dx dy bl bl') {x y u v : Int} (hx : u = x + dx) (hy : v = y + dy) : bl' u v = bl x y := by rw [hx, hy]; exact h x y
theorem mvS_inj {s t : Sd} (h : mvS dx dy s = mvS dx dy t) : s = t := by
  obtain ⟨x, y, d⟩ := s
  obtain ⟨u, v, e⟩ := t
  simp only [mvS, Prod.mk.injEq] at h
  simp only [Prod.mk.injEq]
  omega
theorem isS_mv (h : Mvd dx dy bl bl') (s : Sd) : isS bl' (mvS dx dy s) = isS bl s := by
  unfold isS mvS
  simp only
  rw [h.at (x := s.1 - 1) (y := s.2.1 - 1) (by omega) (by omega), h.at (x := s.1) (y := s.2.1 - 1) (by omega) (by omega), h.at (x := s.1) (y := s.2.1) (by omega) (by omega), h.at (x := s.1 - 1) (y := s.2.1) (by omega) (by omega)]
theorem en_mv (s : Sd) : en (mvS dx dy s) = mvP dx dy (en s) := by
  obtain ⟨x, y, d⟩ := s
  unfold en mvS mvP
  simp only
  refine Prod.ext ?_ ?_ <;> simp only <;> (repeat' split) <;> omega
theorem nx_mv (h : Mvd dx dy bl bl') (hj : Mvd dx dy jn jn') (s : Sd) : nx bl' jn' (mvS dx dy s) = mvS dx dy (nx bl jn s) := by
  have e := en_mv (dx := dx) (dy := dy) s
  unfold nx
  rw [e]
  unfold mvP mvS nxD
  simp only
  rw [h.at (x := (en s).1 - 1) (y := (en s).2 - 1) (by omega) (by omega), h.at (x := (en s).1) (y := (en s).2 - 1) (by omega) (by omega), h.at (x := (en s).1) (y := (en s).2) rfl rfl, h.at (x := (en s).1 - 1) (y := (en s).2) (by omega) (by omega), hj.at (x := (en s).1) (y := (en s).2) rfl rfl]
theorem it_mv (h : Mvd dx dy bl bl') (hj : Mvd dx dy jn jn') (n : Nat) (s : Sd) : it (nx bl' jn') n (mvS dx dy s) = mvS dx dy (it (nx bl jn) n s) := by
  induction n with
  | zero => rfl
  | succ n ih =>
    have a : it (nx bl' jn') (n + 1) (mvS dx dy s) = nx bl' jn' (it (nx bl' jn') n (mvS dx dy s)) := rfl
    have b : it (nx bl jn) (n + 1) s = nx bl jn (it (nx bl jn) n s) := rfl
    rw [a, b, ih, nx_mv h hj]
theorem key_mv (s : Sd) : key (mvS dx dy s) = key s + (33 * dy + dx) := by unfold key mvS; simp only; omega
theorem Cyc.mv (h : Mvd dx dy bl bl') (hj : Mvd dx dy jn jn') {s : Sd} {n : Nat} (hc : Cyc (nx bl jn) (fun s => isS bl s = true) s n) : Cyc (nx bl' jn') (fun s => isS bl' s = true) (mvS dx dy s) n := by
  refine ⟨?_, hc.2.1, ?_, fun i j hij hjn e => ?_⟩
  · show isS bl' _ = true
    rw [isS_mv h]; exact hc.1
  · rw [it_mv h hj, hc.2.2.1]
  · rw [it_mv h hj, it_mv h hj] at e
    exact hc.2.2.2 i j hij hjn (mvS_inj e)
theorem Res.mv (h : Mvd dx dy bl bl') (hj : Mvd dx dy jn jn') {R : List (Sd × Nat)} (hR : Res (nx bl jn) (fun s => isS bl s = true) key R) : Res (nx bl' jn') (fun s => isS bl' s = true) key (R.map (mvC dx dy)) := by
  refine ⟨fun c hc => ?_, ?_, fun t ht => ?_⟩
  · obtain ⟨d, hd, rfl⟩ := List.mem_map.1 hc
    have cd := hR.1 d hd
    refine ⟨cd.1.mv h hj, fun i h0 hi => ?_⟩
    show key (mvS dx dy d.1) < key (it (nx bl' jn') i (mvS dx dy d.1))
    rw [it_mv h hj, key_mv, key_mv]
    have := cd.2 i h0 hi
    omega
  · rw [List.pairwise_map]
    refine hR.2.1.imp fun {a b} hab => ?_
    show key (mvS dx dy a.1) < key (mvS dx dy b.1)
    rw [key_mv, key_mv]; omega
  · have e : mvS dx dy (t.1 - dx, t.2.1 - dy, t.2.2) = t := by
      obtain ⟨x, y, d⟩ := t
      show (x - dx + dx, y - dy + dy, d) = (x, y, d)
      rw [show x - dx + dx = x from by omega, show y - dy + dy = y from by omega]
    have ht2 : isS bl (t.1 - dx, t.2.1 - dy, t.2.2) = true := by rw [← isS_mv h, e]; exact ht
    obtain ⟨c, hc, i, hi, e2⟩ := hR.2.2 _ ht2
    refine ⟨mvC dx dy c, List.mem_map_of_mem hc, i, hi, ?_⟩
    show t = it (nx bl' jn') i (mvS dx dy c.1)
    rw [it_mv h hj, ← e2, e]
theorem ptsOf_mv (h : Mvd dx dy bl bl') (hj : Mvd dx dy jn jn') (c : Sd × Nat) : ptsOf (nx bl' jn') (mvC dx dy c) = (ptsOf (nx bl jn) c).map (mvP dx dy) := by
  unfold ptsOf mvC
  rw [List.map_map]
  refine List.map_congr_left fun i _ => ?_
  simp only [Function.comp_apply]
  rw [it_mv h hj]; rfl
end

/-! Lines. -/
section
variable {dx dy : Int}
theorem getD_mv (l : List Pt) (i : Nat) (h : i < l.length) : (l.map (mvP dx dy)).getD i (0, 0) = mvP dx dy (l.getD i (0, 0)) := by
  simp [List.getD_eq_getElem?_getD, h]
theorem far_mv (p q : Pt) (x y : Int) : farZ (mvP dx dy p) (mvP dx dy q) (x + dx) (y + dy) = farZ p q x y := by
  unfold farZ mvP
  simp only
  rw [show p.1 + dx - (x + dx) = p.1 - x from by omega, show q.2 + dy - (p.2 + dy) = q.2 - p.2 from by omega, show y + dy - (p.2 + dy) = y - p.2 from by omega, show q.1 + dx - (p.1 + dx) = q.1 - p.1 from by omega]
theorem th_mv (p q : Pt) (x y : Int) : thB (mvP dx dy p) (mvP dx dy q) (x + dx) (y + dy) = thB p q x y := by
  have e : thB (mvP dx dy p) (mvP dx dy q) (x + dx) (y + dy) = true ↔ thB p q x y = true := by
    rw [thB_iff, thB_iff, far_mv]
    simp only [mvP]
    omega
  cases a : thB (mvP dx dy p) (mvP dx dy q) (x + dx) (y + dy) <;> cases b : thB p q x y <;> simp_all
theorem wd_mv (p q : Pt) (x y : Int) : wdZ (mvP dx dy p) (mvP dx dy q) (x + dx) (y + dy) = wdZ p q x y := by
  rw [wdZ_eq, wdZ_eq, far_mv]
  simp only [mvP, Int.add_le_add_iff_right, Int.add_lt_add_iff_right]
theorem ws_mv (l : List Pt) (h0 : 0 < l.length) (x y : Int) : ∀ k, k ≤ l.length → wsum (l.map (mvP dx dy)) (x + dx) (y + dy) k = wsum l x y k
  | 0, _ => rfl
  | k + 1, hk => by
    rw [wsum, wsum, ws_mv l h0 x y k (by omega), getD_mv l k (by omega)]
    unfold pr
    rw [List.length_map, getD_mv l _ (Nat.mod_lt _ h0), wd_mv]
theorem ok_mv (l : List Pt) (h0 : 0 < l.length) (x y : Int) : okAt (l.map (mvP dx dy)) (x + dx) (y + dy) = okAt l x y := by
  unfold okAt lstP fstP
  rw [List.length_map, getD_mv l _ (by omega), getD_mv l _ h0, th_mv, ws_mv l h0 x y _ (Nat.le_refl _)]
theorem fit_mv (l : List Pt) : fitB (l.map (mvP dx dy)) = fitB l := by
  rcases Nat.eq_zero_or_pos l.length with h0 | h0
  · have : l = [] := List.length_eq_zero_iff.1 h0
    subst this; rfl
  · have e : fitB (l.map (mvP dx dy)) = true ↔ fitB l = true := by
      rw [fit_all (by simpa using h0), fit_all h0]
      constructor
      · intro h x y; rw [← ok_mv l h0]; exact h _ _
      · intro h x y
        have := ok_mv (dx := dx) (dy := dy) l h0 (x - dx) (y - dy)
        rw [show x - dx + dx = x from by omega, show y - dy + dy = y from by omega] at this
        rw [this]; exact h _ _
    cases a : fitB (l.map (mvP dx dy)) <;> cases b : fitB l <;> simp_all
theorem off_mv (a z p : Pt) : offZ (mvP dx dy a) (mvP dx dy z) (mvP dx dy p) = offZ a z p := by
  unfold offZ mvP
  simp only
  rw [show z.1 + dx - (a.1 + dx) = z.1 - a.1 from by omega, show p.2 + dy - (a.2 + dy) = p.2 - a.2 from by omega, show z.2 + dy - (a.2 + dy) = z.2 - a.2 from by omega, show p.1 + dx - (a.1 + dx) = p.1 - a.1 from by omega]
theorem cost_mv (l : List Pt) : costOf (l.map (mvP dx dy)) = costOf l := by
  rcases Nat.eq_zero_or_pos l.length with h0 | h0
  · have : l = [] := List.length_eq_zero_iff.1 h0
    subst this; rfl
  · have key : ∀ k, k ≤ l.length → costTo (mvP dx dy (fstP l)) (mvP dx dy (lstP l)) (l.map (mvP dx dy)) k = costTo (fstP l) (lstP l) l k := by
      intro k
      induction k with
      | zero => intro _; rfl
      | succ k ih => intro hk; rw [costTo, costTo, ih (by omega), getD_mv l k (by omega), off_mv]
    have e1 : fstP (l.map (mvP dx dy)) = mvP dx dy (fstP l) := getD_mv l 0 h0
    have e2 : lstP (l.map (mvP dx dy)) = mvP dx dy (lstP l) := by unfold lstP; rw [List.length_map]; exact getD_mv l _ (by omega)
    unfold costOf
    rw [e1, e2, List.length_map]
    exact key _ (Nat.le_refl _)
theorem acc_mv (l : List Pt) (B : List Rw) (k : Nat) : accR (l.map (mvP dx dy)) B k = accR l B k := by
  induction k with
  | zero => rfl
  | succ k ih =>
    rw [accR, accR, ← List.map_take, fit_mv, cost_mv, ih]
theorem rows_mv (v : List Pt) (m : Nat) : rowsTo (v.map (mvP dx dy)) m = rowsTo v m := by
  induction m with
  | zero => rfl
  | succ m ih => rw [rowsTo, rowsTo, ih, List.length_map, ← List.map_drop, acc_mv]
theorem cornN_mv (c : List Pt) (h0 : 0 < c.length) : cornN (c.map (mvP dx dy)) = cornN c := by
  have e : c.map (mvP dx dy) ++ [fstP (c.map (mvP dx dy))] = (c ++ [fstP c]).map (mvP dx dy) := by
    rw [List.map_append]
    congr 1
    show [(c.map (mvP dx dy)).getD 0 (0, 0)] = [mvP dx dy (c.getD 0 (0, 0))]
    rw [getD_mv c 0 h0]
  unfold cornN
  rw [e, rows_mv, List.length_map]
theorem cornL_mv (c : List Pt) (h0 : 0 < c.length) (hl : ∀ x ∈ cornN c, x < c.length) : cornL (c.map (mvP dx dy)) = (cornL c).map (mvP dx dy) := by
  unfold cornL
  rw [cornN_mv c h0, List.map_map]
  refine List.map_congr_left fun i hi => ?_
  rw [Function.comp_apply, getD_mv c i (hl i hi)]
theorem twice_mv (l : List Pt) : twiceOf (l.map (mvP dx dy)) = twiceOf l := by
  rcases Nat.eq_zero_or_pos l.length with h0 | h0
  · have : l = [] := List.length_eq_zero_iff.1 h0
    subst this; rfl
  · rw [twiceOf_fsum, twiceOf_fsum, List.length_map]
    have a : ∀ (m : List Pt) k, fsum m k = fsE cross m k := by
      intro m k
      induction k with
      | zero => rfl
      | succ k ih => rw [fsum, fsE, ih]; rfl
    rw [a, a]
    have b : fsE cross (l.map (mvP dx dy)) l.length = fsE (fun p q => cross (mvP dx dy p) (mvP dx dy q)) l l.length := by
      have key : ∀ k, k ≤ l.length → fsE cross (l.map (mvP dx dy)) k = fsE (fun p q => cross (mvP dx dy p) (mvP dx dy q)) l k := by
        intro k
        induction k with
        | zero => intro _; rfl
        | succ k ih =>
          intro hk
          rw [fsE, fsE, ih (by omega), getD_mv l k (by omega)]
          unfold nxP
          rw [List.length_map, getD_mv l _ (Nat.mod_lt _ h0)]
      exact key _ (Nat.le_refl _)
    rw [b]
    have c : fsE (fun p q => cross (mvP dx dy p) (mvP dx dy q) - cross p q) l l.length = fsE (fun p q => (dx * p.2 - dy * p.1) - (dx * q.2 - dy * q.1)) l l.length := fsE_congr fun i _ => by
      unfold cross mvP
      simp only
      rw [Int.add_mul, Int.mul_add, Int.mul_add, Int.add_mul, Int.mul_add, Int.mul_add, Int.mul_comm dx dy, Int.mul_comm dx (nxP l i).2, Int.mul_comm (l.getD i (0, 0)).2 dx, Int.mul_comm (l.getD i (0, 0)).1 dy, Int.mul_comm (nxP l i).2 dx]
      omega
    have d := fsE_sub (fun p q => cross (mvP dx dy p) (mvP dx dy q)) cross l l.length
    rw [c, fsE_tele (fun p => dx * p.2 - dy * p.1) l h0] at d
    omega
end

/-- Where black is is moved; so is where one joins, if nothing is drawn. -/
theorem cnt_mv {dx dy : Int} {bl bl' : Int → Int → Bool} (h : Mvd dx dy bl bl') (x y : Int) (m : Nat) : cntTo bl' (x + dx) (y + dy) m = cntTo bl x y m := by
  induction m with
  | zero => rfl
  | succ m ih => rw [cntTo, cntTo, ih, h.at (x := x - 2 + (m % 4 : Nat)) (y := y - 2 + (m / 4 : Nat)) (by omega) (by omega)]
theorem jn_mv {dx dy : Int} {W H W' H' : Nat} {l l' : List UInt8} (h : Mvd dx dy (blackB W H l) (blackB W' H' l')) {pol : Nat} (hp : pol ≤ 2) (dr dr' : List UInt8) : Mvd dx dy (jnB W H l pol dr) (jnB W' H' l' pol dr') := by
  intro x y
  have : pol = 0 ∨ pol = 1 ∨ pol = 2 := by omega
  rcases this with rfl | rfl | rfl
  · rfl
  · rfl
  · show jnB W' H' l' 2 dr' (x + dx) (y + dy) = jnB W H l 2 dr x y
    rw [jnB_2, jnB_2, cnt_mv h]
end Go.Proofs.Ytljfiefobnncaaa.Qm
