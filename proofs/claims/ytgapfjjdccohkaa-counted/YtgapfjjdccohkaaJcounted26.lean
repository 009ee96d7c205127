import Derived.Test.YtgapfjjdccohkaaJcounted24
import Derived.Test.YtgapfjjdccohkaaJcounted25
import Derived.Test.YtgapfjjdccohkaaJcounted10

/- outlinekeep: pieces. -/
namespace Go.Proofs.Ytgapfjjdccohkaa
open Go.RowKit
attribute [local go_sem ↓] Go.wp_at_zero Go.wp_at_succ

namespace Qm
section
variable (bl : Int → Int → Bool) (j : Bool) (W H : Nat)
/-- Marked is what holds together with a pixel before i. -/
def MI (M : Nat → Int) (i : Nat) : Prop := (∀ k, k < (W + 2) * (H + 2) → 0 ≤ M k) ∧ ∀ k, k < (W + 2) * (H + 2) → (M k ≠ 0 ↔ ∃ a, a < i ∧ Cn bl j W H (cellP W a) (cellP W k))
end
section
variable {bl : Int → Int → Bool} {j : Bool} {W H : Nat} {M M' : Nat → Int} {i : Nat} {n : Int}
theorem MI.start : MI bl j W H (fun _ => 0) 0 := ⟨fun _ _ => Int.le_refl 0, fun k _ => ⟨fun h => absurd rfl h, fun ⟨a, h, _⟩ => by omega⟩⟩
theorem MI.cl (h : MI bl j W H M i) : Cl bl j W H M := fun a k ha hk h0 ad => by
  obtain ⟨r, hr, hc⟩ := (h.2 a ha).1 h0
  exact (h.2 k hk).2 ⟨r, hr, .step _ _ hc ad (cellP_in hk)⟩
theorem MI.old (h : MI bl j W H M i) (hi : i < (W + 2) * (H + 2)) (h0 : M i ≠ 0) : MI bl j W H M (i + 1) ∧ ¬ Fst bl j W H i := by
  obtain ⟨r, hr, hc⟩ := (h.2 i hi).1 h0
  refine ⟨⟨h.1, fun k hk => ⟨fun hm => ?_, fun ⟨a, ha, ca⟩ => ?_⟩⟩, fun hf => hf r hr (hc.symm (cellP_in (by omega)))⟩
  · obtain ⟨a, ha, ca⟩ := (h.2 k hk).1 hm
    exact ⟨a, by omega, ca⟩
  · rcases Nat.lt_or_ge a i with h1 | h1
    · exact (h.2 k hk).2 ⟨a, h1, ca⟩
    · obtain rfl : a = i := by omega
      exact (h.2 k hk).2 ⟨r, hr, hc.trans ca⟩
theorem MI.new (h : MI bl j W H M i) (hi : i < (W + 2) * (H + 2)) (h0 : M i = 0) (hn : 0 < n) (hM : ∀ k, k < (W + 2) * (H + 2) → (Cn bl j W H (cellP W i) (cellP W k) → M k = 0 ∧ M' k = n) ∧ (¬ Cn bl j W H (cellP W i) (cellP W k) → M' k = M k)) : MI bl j W H M' (i + 1) ∧ Fst bl j W H i := by
  refine ⟨⟨fun k hk => ?_, fun k hk => ⟨fun hm => ?_, fun ⟨a, ha, ca⟩ => ?_⟩⟩, fun k hk hc => ?_⟩
  · by_cases c : Cn bl j W H (cellP W i) (cellP W k)
    · rw [((hM k hk).1 c).2]; omega
    · rw [(hM k hk).2 c]; exact h.1 k hk
  · by_cases c : Cn bl j W H (cellP W i) (cellP W k)
    · exact ⟨i, by omega, c⟩
    · rw [(hM k hk).2 c] at hm
      obtain ⟨a, ha, ca⟩ := (h.2 k hk).1 hm
      exact ⟨a, by omega, ca⟩
  · by_cases c : Cn bl j W H (cellP W i) (cellP W k)
    · rw [((hM k hk).1 c).2]; omega
    · rw [(hM k hk).2 c]
      rcases Nat.lt_or_ge a i with h1 | h1
      · exact (h.2 k hk).2 ⟨a, h1, ca⟩
      · obtain rfl : a = i := by omega
        exact absurd ca c
  · exact (h.2 i hi).2 ⟨k, hk, hc.symm (cellP_in hi)⟩ h0
end
/-- The pixels of a colour that are the first of their piece. -/
noncomputable def cntC (bl : Int → Int → Bool) (j : Bool) (W H : Nat) (c : Bool) (i : Nat) : Nat := cntP (fun i => bl (cellP W i).1 (cellP W i).2 = c ∧ Fst bl j W H i) i
theorem cntC_no {bl : Int → Int → Bool} {j : Bool} {W H i : Nat} (h : ¬ Fst bl j W H i) (c : Bool) : cntC bl j W H c (i + 1) = cntC bl j W H c i := cntP_no fun hp => h hp.2
theorem cntC_yes {bl : Int → Int → Bool} {j : Bool} {W H i : Nat} (h : Fst bl j W H i) {c : Bool} (e : bl (cellP W i).1 (cellP W i).2 = c) : cntC bl j W H c (i + 1) = cntC bl j W H c i + 1 ∧ cntC bl j W H (!c) (i + 1) = cntC bl j W H (!c) i :=
  ⟨cntP_yes (P := fun i => bl (cellP W i).1 (cellP W i).2 = c ∧ Fst bl j W H i) ⟨e, h⟩, cntP_no fun hp => by have := hp.1; rw [e] at this; cases c <;> simp at this⟩
end Qm

set_option maxRecDepth 4000 in
set_option maxHeartbeats 4000000 in
theorem pieces_any (W H : Nat) (s : ByteArray) (j : Bool) (w : World) (W1 : 1 ≤ W) (W2 : W ≤ 32) (H1 : 1 ≤ H) (H2 : H ≤ 32) (hl : s.size = W * H) :
    Calls Try.prog 22 #[.agg #[.int .i64 W, .int .i64 H, .string s], .bool j] w fun e w' => e = .returned (.tuple #[.int .i64 (Qm.cntC (Pm.blackB W H s.data.toList) j W H true ((W + 2) * (H + 2)) : Nat), .int .i64 (Qm.cntC (Pm.blackB W H s.data.toList) j W H false ((W + 2) * (H + 2)) : Nat)]) ∧ Below w.heap.size w w' := by
  obtain ⟨ii, hii, hi0, hi1, hi2⟩ := info_parts infoInt
  have HL := hid hl
  have BLK := hid (fun (B gm k : Nat) (z : Int) (wr w : World) (h : SB B gm k W H s z wr w) (x y : Int) => black_sb h W2 H2 hl x y)
  have SPR := hid (fun (gm capm fr n : Nat) (near : Bool) (M : Nat → Int) (w : World) => spread_any W H s gm capm fr n near j M w W1 W2 H1 H2 hl)
  obtain ⟨bl, hbl⟩ : ∃ bl, bl = Pm.blackB W H s.data.toList := ⟨_, rfl⟩
  rw [← hbl] at BLK SPR ⊢
  obtain ⟨T, hT⟩ : ∃ T, T = (W + 2) * (H + 2) := ⟨_, rfl⟩
  have TB : T ≤ 1156 := by rw [hT]; exact Nat.mul_le_mul (show W + 2 ≤ 34 by omega) (show H + 2 ≤ 34 by omega)
  have TI : ((W : Int) + 2) * ((H : Int) + 2) = (T : Nat) := by rw [hT]; simp
  have OLD := hid (fun M i (h : Qm.MI bl j W H M i) => h.old)
  have NEW := hid (fun M M' i n (h : Qm.MI bl j W H M i) => Qm.MI.new (M' := M') (n := n) h)
  have S0 := hid (Qm.MI.start (bl := bl) (j := j) (W := W) (H := H))
  simp only [← hT] at SPR OLD NEW ⊢
  have HT := hid hT
  clear hl hbl hT
  have C0 := hid (show ∀ c, Qm.cntC bl j W H c 0 = 0 from fun c => rfl)
  have CB := hid (show ∀ c i, Qm.cntC bl j W H c i ≤ i from fun c i => Qm.cntP_le _ i)
  obtain ⟨cn, hcn⟩ : ∃ cn, cn = Qm.cntC bl j W H := ⟨_, rfl⟩
  have CNO := hid (show ∀ i, ¬ Qm.Fst bl j W H i → ∀ c, cn c (i + 1) = cn c i by rw [hcn]; exact fun i h c => Qm.cntC_no h c)
  have CYES := hid (show ∀ i, Qm.Fst bl j W H i → ∀ c, bl (Qm.cellP W i).1 (Qm.cellP W i).2 = c → cn c (i + 1) = cn c i + 1 ∧ cn (!c) (i + 1) = cn (!c) i by rw [hcn]; exact fun i h c e => Qm.cntC_yes h e)
  rw [← hcn] at C0 CB ⊢
  clear hcn
  have m2 : T ≤ maxLen := by unfold maxLen; omega
  go_enter Try.func22, Try.ntmps22
  have YB := hid (bmp_new w W H s)
  have YL := hid (show Below w.heap.size w (w.alloc (.cells #[.int .i64 W, .int .i64 H, .string s] 23)) from (Below.refl _ _).alloc (Nat.le_refl _) _)
  go_wp2_with (first
    | (at_make; refine wpList_make_full _ rfl _ _ 33 rfl (w.heap.size + 1) 3 ii (.int .i64 0) 1 Try.underlying33 hii hi0 hi1 .i64 .i64 _ _ T rfl rfl (by simp) (by simp) (by rw [hi2]; omega) m2 (by simp) ?_))
  intro w3 o3 g3
  have b3 : Below (w.heap.size + 1) (w.alloc (.cells #[.int .i64 W, .int .i64 H, .string s] 23)) w3 := ⟨g3.os, g3.tape, g3.output, g3.size, fun k hk => g3.block k (by simp; omega) (by simp)⟩
  have z3 : w.heap.size + 1 < w3.heap.size := (o3.lt (w.heap.size + 1) rfl).2
  have B3 := hid (YB.out.on b3 (by omega))
  have L3 := hid (YL.out.trans (b3.mono (by omega)))
  have M3 := hid (show MkAt (w.heap.size + 1) T (fun _ => 0) w3 from ⟨z3, fun k hk => by
    have := o3.cells (g := w.heap.size + 1) rfl k _ (by have := madeInts_at T k hk; simpa using this)
    rwa [add_zero_at] at this, fun k => own_fz o3 k⟩)
  clear o3 g3 b3 z3 YB YL m2 TI
  go_wp2_with fail
  go_loopw [8, 9, 10] (fun bv wv iv wr => ∃ (i : Nat) (M : Nat → Int), i ≤ T ∧ iv = .int .i64 i ∧ bv = .int .i64 (cn true i : Nat) ∧ wv = .int .i64 (cn false i : Nat) ∧ Hid (Qm.MI bl j W H M i) ∧ Hid (MkAt (w.heap.size + 1) T M wr) ∧ Hid (Bmp w.heap.size W H s wr) ∧ Hid (Below w.heap.size w wr)) (fun _ _ i _ => T - (intOf i).toNat)
  case atStart => exact ⟨0, _, by omega, rfl, by rw [C0.out]; rfl, by rw [C0.out]; rfl, S0, M3, B3, L3⟩
  case round =>
    clear M3 B3 L3 S0 C0
    obtain ⟨i, M, hiT, rfl, rfl, rfl, hMI, hMk, hBm, hBl⟩ := hrel
    have cb1 := CB.out true i
    have cb2 := CB.out false i
    obtain ⟨c1, hc1⟩ : ∃ c1, c1 = cn true i := ⟨_, rfl⟩
    obtain ⟨c2, hc2⟩ : ∃ c2, c2 = cn false i := ⟨_, rfl⟩
    rw [← hc1] at cb1 ⊢
    rw [← hc2] at cb2 ⊢
    have HC1 := hid hc1
    have HC2 := hid hc2
    clear hc1 hc2
    by_cases hi : i < T
    · have CK := hMk.out.2.1 i hi
      obtain ⟨z, hz⟩ : ∃ z, z = M i := ⟨_, rfl⟩
      have zn : 0 ≤ z := by rw [hz]; exact hMI.out.1 i (by rw [← HT.out]; exact hi)
      rw [← hz] at CK
      have HZ := hid hz
      clear hz
      have k0 : (0 : Int) ≤ (i : Nat) := by omega
      have k1 : ((i : Nat) : Int) < (T : Nat) := by omega
      by_cases hp : 0 < z
      · have NX := hid (OLD.out M i hMI.out hi (by rw [← HZ.out]; omega))
        have N1 := hid (CNO.out i NX.out.2 true)
        have N2 := hid (CNO.out i NX.out.2 false)
        go_wp2
        go_roundw
        case rel => exact ⟨i + 1, M, by omega, by go_num, by rw [N1.out, HC1.out], by rw [N2.out, HC2.out], NX.out.1, hMk, hBm, hBl⟩
        case measure => simp [intOf]; omega
      · obtain rfl : z = 0 := by omega
        obtain ⟨xm, hxm⟩ : ∃ xm, xm = i % (W + 2) := ⟨_, rfl⟩
        obtain ⟨ym, hym⟩ : ∃ ym, ym = i / (W + 2) := ⟨_, rfl⟩
        have cx : (i : Int) % ((W : Int) + 2) = (xm : Nat) := by rw [hxm]; simp
        have cy : (i : Int) / ((W : Int) + 2) = (ym : Nat) := by rw [hym]; simp
        have xb : xm ≤ 1156 := by have : xm ≤ i := by rw [hxm]; exact Nat.mod_le _ _
                                  omega
        have yb : ym ≤ 1156 := by have : ym ≤ i := by rw [hym]; exact Nat.div_le_self _ _
                                  omega
        have CA := hid (show Qm.cellP W i = ((xm : Int) - 1, (ym : Int) - 1) by rw [hxm, hym]; rfl)
        have ctm : ((i : Nat) : Int).tmod ((W : Int) + 2) = (xm : Nat) := by rw [Int.tmod_eq_emod_of_nonneg (by omega)]; exact cx
        have wx : IntKind.i64.wrap ((xm : Int) - 1) = (xm : Int) - 1 := by rw [IntKind.wrap_i64]; omega
        have wy0 : IntKind.i64.wrap ((ym : Nat) : Int) = (ym : Nat) := by rw [IntKind.wrap_i64]; omega
        have wy : IntKind.i64.wrap ((ym : Int) - 1) = (ym : Int) - 1 := by rw [IntKind.wrap_i64]; omega
        have w0 : ¬ (W : Int) + 2 = 0 := by omega
        have w1 : (((W : Int) + 2) == 0) = false := by simp; omega
        have w2 : ¬ W + 2 = 0 := by omega
        obtain ⟨bw0, bw1, bw2, bw3⟩ := hBm.out
        have S0 := hid (show SB w.heap.size (w.heap.size + 1) i W H s 0 wr wr.drew from ⟨bw1, bw2, bw3, CK, ⟨rfl, rfl, rfl, Nat.le_refl _, fun _ _ => rfl⟩, bw0, hMk.out.1⟩)
        clear hxm hym hp zn
        go_wp2_with fail
        go_region_held3 (fun w' => w'.cell? ⟨w.heap.size, 0, none⟩ = some (.int .i64 W) ∧ w'.cell? ⟨w.heap.size, 1, none⟩ = some (.int .i64 H) ∧ w'.cell? ⟨w.heap.size, 2, none⟩ = some (.string s) ∧ w'.cell? ⟨w.heap.size + 1, i, none⟩ = some (.int .i64 0) ∧ Below wr.heap.size wr w' ∧ w.heap.size < w'.heap.size ∧ w.heap.size + 1 < w'.heap.size)
          (first | exact S0.out | exact (by assumption : SB w.heap.size (w.heap.size + 1) i W H s 0 wr _))
          (first | (go_at_call 37; refine (BLK.out _ _ _ _ _ _ S0.out _ _).mono ?_; rintro e w6 ⟨rfl, hS6⟩))
        try simp only [ctm, wx, wy0, wy]
        have S6 := hid hS6
        clear hS6 S0 CK bw0 bw1 bw2 bw3
        obtain ⟨bw1, bw2, bw3, -, hB6, -, -⟩ := S6.out
        have M6 := hid (hMk.out.on hB6)
        have B6 := hid (hBm.out.on hB6 hBm.out.1)
        have L6 := hid (hBl.out.trans (hB6.mono hBl.out.size))
        have z6 : w.heap.size + 1 < w6.heap.size := S6.out.2.2.2.2.2.2
        clear hB6
        have SP1 := hid (show ∀ near : Bool, (near = true ↔ bl ((xm : Int) - 1) ((ym : Int) - 1) = j) → Calls Try.prog 38 #[.agg #[.int .i64 W, .int .i64 H, .string s], .slice (some ⟨w.heap.size + 1, 0, none⟩) T T, .int .i64 (i : Nat), .int .i64 (1 + (i : Nat)), .bool near] w6 fun e w' => e = .returned (.tuple #[]) ∧ Hid (∃ M', MkAt (w.heap.size + 1) T M' w' ∧ Qm.MI bl j W H M' (i + 1) ∧ Qm.Fst bl j W H i) ∧ Hid (w6.grownBy w' (some (w.heap.size + 1))) from fun near hn => by
          have h := SPR.out (w.heap.size + 1) T i (1 + i) near M w6 M6.out hi HZ.out.symm (by omega) (by omega) hMI.out.cl (by rw [CA.out]; exact hn)
          rw [Int.natCast_add] at h
          refine h.mono ?_
          rintro e w' ⟨rfl, M', h1, h2, h3⟩
          exact ⟨rfl, ⟨M', h1, NEW.out M M' i _ hMI.out hi HZ.out.symm (by omega) h2⟩, h3⟩)
        cases hb : bl ((xm : Int) - 1) ((ym : Int) - 1)
        all_goals (
          have HB := hid (show bl (Qm.cellP W i).1 (Qm.cellP W i).2 = bl ((xm : Int) - 1) ((ym : Int) - 1) by rw [CA.out])
          go_wp2_with (first | (go_at_call 38; refine (SP1.out _ (by rw [hb]; cases j <;> simp)).mono ?_; rintro e w7 ⟨rfl, hX, hG7⟩))
          obtain ⟨M', hMk7, hMI7, hF⟩ := hX.out
          have MK7 := hid hMk7
          have MI7 := hid hMI7
          have YS := hid (CYES.out i hF _ (HB.out.trans hb))
          have B7 := hid (B6.out.gb hG7.out (by simp))
          have L7 := hid (L6.out.grown hG7.out (by omega) (fun q hq => by simp at hq; omega))
          clear hMk7 hMI7 hF hX bw1 bw2 bw3
          go_wp2
          go_roundw
          case rel => exact ⟨i + 1, M', by omega, by go_num, by first | (rw [YS.out.1, ← HC1.out]; go_num) | (rw [show cn true (i + 1) = cn true i from YS.out.2, HC1.out]), by first | (rw [YS.out.1, ← HC2.out]; go_num) | (rw [show cn false (i + 1) = cn false i from YS.out.2, HC2.out]), MI7, MK7, B7, L7⟩
          case measure => simp [intOf]; omega)
    · obtain rfl : i = T := by omega
      go_wp2
      go_ret2
      exact ⟨by rw [HC1.out, HC2.out]; rfl, hBl.out⟩
end Go.Proofs.Ytgapfjjdccohkaa

/- outlinekeep: Walked. -/
namespace Go.Proofs.Ytgapfjjdccohkaa
open Go.RowKit
attribute [local go_sem ↓] Go.wp_at_zero Go.wp_at_succ

set_option maxRecDepth 4000 in
set_option maxHeartbeats 4000000 in
theorem walkedKeep_any (ao : Option Addr) (len cap : Nat) (a h p : Int) (draws : ByteArray) (w : World) (hraw : RawIs ao len w) (hlen : len ≤ 140737488355328) (a1 : -9223372036854775808 ≤ a) (a2 : a ≤ 9223372036854775807) (h1 : -9223372036854775808 ≤ h) (h2 : h ≤ 9223372036854775807) (p1 : -9223372036854775808 ≤ p) (p2 : p ≤ 9223372036854775807) :
    Calls Try.prog 4 #[.slice ao len cap, .int .i64 a, .int .i64 h, .int .i64 p, .string draws] w fun e w' => e = .returned (.bool true) ∧ Below w.heap.size w w' := by
  obtain ⟨ib, hib, hzb0, hzb1, hzb2⟩ := info_parts infoBool
  have RW := hid hraw
  clear hraw
  go_enter Try.func4, Try.ntmps4
  go_wp2_with fail
  refine (works_any _).mono ?_
  rintro e w1 ⟨rfl, hb⟩
  have B1 := hid (show Below w.heap.size w w1 from hb)
  clear hb
  go_wp2_with fail
  refine (built_core ao len cap a h _ (RW.out.on B1.out) hlen a1 a2 h1 h2).mono ?_
  rintro e w2 ⟨⟨W, H, l, rfl, W1, W2, H1, H2, hl, hall⟩, hb⟩
  have MAY := hid (fun (pol : Nat) (hp : pol ≤ 3) => show mayB W H (⟨l.toArray⟩ : ByteArray).data.toList pol 0 = true from may_of (good_of W1 W2 H1 H2 hl hall) (by omega) (by omega) (by omega) (by omega))
  have HL := hid (show (⟨l.toArray⟩ : ByteArray).size = W * H from hl)
  have B2 := hid (show Below w.heap.size w w2 from B1.out.trans (hb.mono B1.out.size))
  clear hall hl hb RW
  obtain ⟨s, hs⟩ : ∃ s : ByteArray, s = ⟨l.toArray⟩ := ⟨_, rfl⟩
  rw [← hs] at MAY HL ⊢
  clear hs
  go_wp2_with fail
  go_region_held3 (fun w' => w'.cell? ⟨w2.heap.size, 0, none⟩ = some (.int .i64 W) ∧ w'.cell? ⟨w2.heap.size, 1, none⟩ = some (.int .i64 H) ∧ w'.cell? ⟨w2.heap.size, 2, none⟩ = some (.string s) ∧ Below w2.heap.size w2 w' ∧ w2.heap.size < w'.heap.size)
    (first | exact inb_new w2 W H s 23 | exact (by assumption : Inb w2.heap.size W H s w2 _))
    (first | (go_at_call 15; refine (options_inb (inb_new w2 W H s 23) p draws p1 p2).mono ?_; rintro e w3 ⟨⟨pol, rfl, hpol⟩, hI3⟩) | (go_at_call 14; refine (cycles_inb (by assumption : Inb w2.heap.size W H s w2 _) pol draws 0 (MAY.out pol hpol) W2 H2 HL.out hpol).mono ?_; rintro e w4 ⟨vl, rfl, hF, hI4⟩))
  obtain ⟨L, hR, hRow, hLn⟩ := hF
  have SH := hid (hRow.shown (fun q hq => (hR.1 q.2 (List.mem_map_of_mem hq)).1.2.1))
  have BM := hid hI4.bmp
  have B4 := hid (show Below w.heap.size w w4 from B2.out.trans (hI4.2.2.2.1.mono B2.out.size))
  have k4 : w2.heap.size < w4.heap.size := hI4.2.2.2.2
  obtain ⟨al, cl, rfl, hrow⟩ := SH.out.row
  have RES := hid hR
  have HROW := hid hrow
  clear hR hRow hrow hI3 hI4
  obtain ⟨R, hRR⟩ : ∃ R, R = L.map (·.2) := ⟨_, rfl⟩
  rw [← hRR] at RES
  have RR := hid hRR
  clear hRR
  have RL := hid (show R.length = L.length by rw [RR.out, List.length_map])
  have PIC := hid (Qm.pic_of W H s.data.toList W2 H2)
  have TB := hid (show ∀ i, Qm.totS R i ≤ 2178 from fun i => by
    have a := Qm.totS_mono R i
    have b := Qm.totS_all (fB W H s pol draws) R
    have c := Qm.Res.count RES.out PIC.out
    have d := Qm.bx_cS (Pm.blackB W H s.data.toList) (W + 1) (H + 1) (by omega) (by omega)
    have e : (Qm.alS (fB W H s pol draws) R).length = (Qm.alS (Qm.nx (Pm.blackB W H s.data.toList) (Qm.jnB W H s.data.toList pol draws.data.toList)) R).length := rfl
    omega)
  have SM := hid (show ∀ c ∈ R, Qm.Small (Qm.ptsOf (fB W H s pol draws) c) from fun c hc => small_pts W2 H2 (RES.out.1 c hc).1)
  have AB := hid (show ∀ i, i ≤ L.length → -1024 * (Qm.totS R i : Int) ≤ Qm.areaS (fB W H s pol draws) R i ∧ Qm.areaS (fB W H s pol draws) R i ≤ 1024 * (Qm.totS R i : Int) from fun i hi => Qm.areaS_small _ R SM.out i (by rw [RL.out]; exact hi))
  obtain ⟨n, hn⟩ : ∃ n, n = L.length := ⟨_, rfl⟩
  rw [← hn] at hLn HROW RL AB ⊢
  have HN := hid hn
  clear hn
  go_wp2_with (first
    | (at_make; refine wpList_make_full _ rfl _ _ 40 rfl w4.heap.size 4 ib (.bool false) 1 Try.underlying40 hib hzb0 hzb1 .i64 .i64 _ _ 4356 rfl rfl rfl rfl (by rw [hzb2]; omega) (by unfold maxLen; omega) (Nat.le_refl _) ?_))
  intro w5 o5 g5
  have b5 : Below w4.heap.size w4 w5 := ⟨g5.os, g5.tape, g5.output, g5.size, fun k hk => g5.block k hk (by simp)⟩
  have z5 : w4.heap.size < w5.heap.size := by have := (o5.lt w4.heap.size rfl).2; exact this
  have GA := hid (show GoneAt w4.heap.size 4356 (fun _ => false) w5 by
    refine ⟨z5, fun j hj => ⟨?_, ?_⟩⟩
    · have := o5.cells (g := w4.heap.size) rfl j (.bool false) (by
        rw [toList_madeCells_one, List.getElem?_replicate, if_pos hj])
      rwa [add_zero_at] at this
    · rcases o5.2 with ⟨h1, _⟩ | ⟨g, cap, cur, h1, _, h2, _⟩
      · cases h1
      · injection h1 with h1 _ _; injection h1 with h1; injection h1 with h1 _ _
        subst h1
        simp [World.frozen?, h2])
  have B5 := hid b5
  obtain ⟨gg, hgg⟩ : ∃ gg, gg = w4.heap.size := ⟨_, rfl⟩
  rw [← hgg] at GA B5 k4 ⊢
  have HG := hid hgg
  clear hgg b5 z5 o5 g5
  go_wp2_with fail
  go_loopw [16, 17, 18] (fun nv av iv wr => ∃ (i : Nat) (G : Nat → Bool), i ≤ n ∧ iv = .int .i64 i ∧ nv = .int .i64 (Qm.totS R i : Nat) ∧ av = .int .i64 (Qm.areaS (fB W H s pol draws) R i) ∧ Qm.Rep (Pm.blackB W H s.data.toList) (fB W H s pol draws) G (R.take i) ∧ GoneAt gg 4356 G wr ∧ Below gg w4 wr) (fun _ _ i _ => n - (intOf i).toNat)
  case atStart => exact ⟨0, fun _ => false, by omega, rfl, rfl, rfl, fun t ht => by simp [Qm.Tk], GA.out, B5.out⟩
  case round =>
    obtain ⟨i, G, hin, rfl, rfl, rfl, hrep, hgone, hbl⟩ := hrel
    have tb := TB.out i
    have ab := AB.out i hin
    by_cases hlt : i < n
    · obtain ⟨gl, rfl, hgl, hc⟩ := HROW.out.resolve_left (by omega)
      have hlt' : (i : Int) < (n : Nat) := by omega
      have hlg : gl < gg := by rw [HG.out]; exact hgl
      have hiR : i < R.length := by rw [RL.out]; exact hlt
      obtain ⟨g, c, m0, hpt, c0, c1⟩ := SH.out.at RR.out hc hiR
      have can := RES.out.at hiR
      have HPV := hid (show 0 < i → ∃ g' c', 0 < R[i - 1].2 ∧ PtsAt g' (Qm.ptsOf (fB W H s pol draws) R[i - 1]) w4 ∧ w4.cell? ⟨gl, (i - 1) * 2, none⟩ = some (.slice (some ⟨g', 0, none⟩) R[i - 1].2 c') ∧ Qm.key R[i - 1].1 < Qm.key R[i].1 from fun hi0 => by
        obtain ⟨g', c', a1, a2, a3, _⟩ := SH.out.at RR.out hc (i := i - 1) (by omega)
        exact ⟨g', c', a1, a2, a3, List.pairwise_iff_getElem.1 RES.out.2.1 (i - 1) i (by omega) hiR (by omega)⟩)
      have FR := hid (fun m => RES.out.fresh hiR m)
      have TS := hid (Qm.totS_succ hiR)
      have AS := hid (Qm.areaS_succ (fB W H s pol draws) hiR)
      have TK := hid (Qm.take_next hiR)
      have sm := SM.out R[i] (List.getElem_mem hiR)
      obtain ⟨cy, hcy⟩ : ∃ cy, cy = R[i] := ⟨_, rfl⟩
      rw [← hcy] at m0 hpt c0 c1 can HPV FR TS AS TK sm
      clear hcy
      have hd4 := can.1.four
      have hle := cyc_le W2 H2 can.1
      have htn := can.1.twice_ne PIC.out
      obtain ⟨m, hm⟩ : ∃ m, m = cy.2 := ⟨_, rfl⟩
      rw [← hm] at m0 c0 hd4 hle TS
      obtain ⟨ps, hps⟩ : ∃ ps, ps = Qm.ptsOf (fB W H s pol draws) cy := ⟨_, rfl⟩
      have htn2 : Qm.twiceOf ps ≠ 0 := by
        rw [hps]
        show Qm.twiceOf (Qm.ptsOf (Qm.nx (Pm.blackB W H s.data.toList) (Qm.jnB W H s.data.toList pol draws.data.toList)) cy) ≠ 0
        omega
      rw [← hps] at hpt c1 sm AS
      have hlp : m = ps.length := by rw [hps, hm, Qm.ptsOf_len]
      have tws := Qm.fsum_small sm ps.length
      rw [← Qm.twiceOf_fsum, ← hlp] at tws
      have WD0 : Wd gg gl i g m c (Qm.twiceOf ps) w4 G wr := ⟨(hbl.cell (p := ⟨gl, i * 2, none⟩) hlg).trans c0, (hbl.cell (p := ⟨gl, i * 2 + 1, none⟩) hlg).trans c1, hbl, hgone⟩
      have WT := hid (fun (wx : World) (hx : Wd gg gl i g m c (Qm.twiceOf ps) w4 G wx) => twice_wd ps hx hlg hlp m0 sm hle hpt HG.out)
      obtain ⟨tw, htw⟩ : ∃ tw, tw = Qm.twiceOf ps := ⟨_, rfl⟩
      rw [← htw] at WD0 WT htn2 tws AS c1
      have HPT := hid hpt
      have HPS := hid hps
      have HM := hid hm
      have HTW := hid htw
      have HLP := hid hlp
      have CAN := hid can
      have GON := hid hgone
      have BLO := hid hbl
      have REP := hid hrep
      have W0 := hid WD0
      clear hpt hps hm htw hlp can hgone hbl hrep c0 c1 htn sm hc
      obtain ⟨d0, d1, -, -⟩ := WD0
      have dm : decide ((m : Int) < 4) = false := by simp; omega
      have dt : (tw == 0) = false := by simpa using htn2
      go_wp2_with fail
      go_region_held3 (fun w' => w'.cell? ⟨gl, i * 2, none⟩ = some (.slice (some ⟨g, 0, none⟩) m c) ∧ w'.cell? ⟨gl, i * 2 + 1, none⟩ = some (.int .i64 tw) ∧ Below gg w4 w' ∧ GoneAt gg 4356 G w')
        (first | exact W0.out.drew hlg | exact (by assumption : Wd gg gl i g m c tw w4 G _))
        (first | (go_at_call 16; refine (WT.out _ (W0.out.drew hlg)).mono ?_; rintro e w6 ⟨rfl, hW6⟩))
      have W6 := hid hW6
      clear d0 d1 dm dt
      obtain ⟨d0, d1, -, -⟩ := hW6
      have hgg1 : g < gg := by rw [HG.out]; exact HPT.out.1
      have FST := hid (first_at (f := fB W H s pol draws) (c := cy) (by rw [← HM.out]; exact m0))
      rcases Nat.eq_zero_or_pos i with hi0 | hi0
      all_goals first
        | (
            have _hi : i = 0 := hi0
            clear _hi
            have hi0' : ¬ (0 : Int) < (i : Nat) := by omega
            have hib : decide ((0 : Int) < (i : Nat)) = false := by simpa using hi0'
            have hib2 : decide (0 < i) = false := by simp; omega
            have hib3 : ¬ 0 < i := by omega
            clear hi0
            go_wp2_with fail
            go_quiet (fail)
            obtain ⟨w7, e7⟩ : ∃ w7, w7 = w6.drewN nq := ⟨_, rfl⟩
            have W7 := hid (show Wd gg gl i g m c tw w4 G w7 from W6.out.on hlg (by rw [e7]; exact ⟨rfl, rfl, rfl, Nat.le_refl _, fun _ _ => rfl⟩))
            rw [← e7]
            clear e7 d0 d1 hib hib2 hib3 hi0')
        | (
            obtain ⟨j, hj⟩ : ∃ j, i = j + 1 := ⟨i - 1, by omega⟩
            obtain ⟨g', c', q0, hpt', cc, hk⟩ := HPV.out hi0
            have ej : i - 1 = j := by omega
            simp only [ej] at q0 hpt' cc hk
            have ej2 : (i : Int) - 1 = (j : Nat) := by omega
            have ej3 : (0 : Int) ≤ (j : Nat) := by omega
            have ej4 : (j : Int) < (n : Nat) := by omega
            have ej5 : (0 : Int) < (i : Nat) := by omega
            have ej6 : IntKind.i64.wrap ((i : Int) - 1) = (j : Nat) := by rw [IntKind.wrap_i64]; omega
            have ej7 : IntKind.i64.wrap ((j : Nat) : Int) = (j : Nat) := by rw [IntKind.wrap_i64]; omega
            have ej8 : j < n := by omega
            have ej9 : ¬ (n : Int) ≤ (j : Nat) := by omega
            have HJ := hid hj
            have hg1' : g' < gg := by rw [HG.out]; exact hpt'.1
            have WP := Wp.mk' W6.out hlg HG.out cc HPT.out hpt' (by rw [← HLP.out]; exact m0) (by rw [Qm.ptsOf_len]; exact q0)
            have fs := FST.out
            rw [← HPS.out] at fs
            rw [fs, first_at q0] at WP
            have s1 := Qm.side_in PIC.out CAN.out.1.1
            have s2 := Qm.side_in PIC.out (RES.out.at (i := j) (by omega)).1.1
            simp only [Qm.key] at hk
            have hlt2 : R[j].1.2.1 < cy.1.2.1 ∨ (R[j].1.2.1 = cy.1.2.1 ∧ R[j].1.1 < cy.1.1) := by omega
            obtain ⟨xa, hxa⟩ : ∃ x, x = R[j].1.1 := ⟨_, rfl⟩
            obtain ⟨ya, hya⟩ : ∃ x, x = R[j].1.2.1 := ⟨_, rfl⟩
            obtain ⟨xb, hxb⟩ : ∃ x, x = cy.1.1 := ⟨_, rfl⟩
            obtain ⟨yb, hyb⟩ : ∃ x, x = cy.1.2.1 := ⟨_, rfl⟩
            obtain ⟨m', hm'⟩ : ∃ x, x = R[j].2 := ⟨_, rfl⟩
            simp only [← hxa, ← hya, ← hxb, ← hyb, ← hm'] at WP hlt2 q0
            have WQ := hid WP
            have q0' : (0 : Int) < (m' : Nat) := by omega
            have m0' : (0 : Int) < (m : Nat) := by omega
            clear hpt' cc hk ej s1 s2 fs hxa hya hxb hyb hm' hj
            obtain ⟨f0, f1, f2, f3, f4, -⟩ := WP
            go_wp2_with fail
            go_region_held3 (fun w' => w'.cell? ⟨gl, j * 2, none⟩ = some (.slice (some ⟨g', 0, none⟩) m' c') ∧ w'.cell? ⟨g', 0, none⟩ = some (.int .i64 xa) ∧ w'.cell? ⟨g', 1, none⟩ = some (.int .i64 ya) ∧ w'.cell? ⟨g, 0, none⟩ = some (.int .i64 xb) ∧ w'.cell? ⟨g, 1, none⟩ = some (.int .i64 yb) ∧ w'.cell? ⟨gl, i * 2, none⟩ = some (.slice (some ⟨g, 0, none⟩) m c) ∧ w'.cell? ⟨gl, i * 2 + 1, none⟩ = some (.int .i64 tw) ∧ Below gg w4 w' ∧ GoneAt gg 4356 G w')
              (first | exact WQ.out.drew hlg hgg1 hg1' | exact (by assumption : Wp gg gl j i g m c g' m' c' tw xa ya xb yb w4 G _))
              (first | (go_at_call 17; refine (before_wp (WQ.out.drew hlg hgg1 hg1') hlg hgg1 hg1' hlt2).mono ?_; rintro e w7 ⟨rfl, hW7⟩))
            have W7 := hid (show Wd gg gl i g m c tw w4 G w7 from hW7.wd)
            clear d0 d1 f0 f1 f2 f3 f4 ej2 ej3 ej4 ej5 ej6 ej7 ej8 ej9 hW7)
      all_goals (
        obtain ⟨d0, d1, hb7, hg7⟩ := W7.out
        have B7 := hid hb7
        have G7 := hid hg7
        clear hb7 hg7
        go_wp2_with fail
        go_loopw [16, 19] (fun nv kv wr => ∃ (k : Nat) (G' : Nat → Bool), k ≤ m ∧ kv = .int .i64 k ∧ nv = .int .i64 ((Qm.totS R i + k : Nat) : Int) ∧ Qm.RepM (Pm.blackB W H s.data.toList) (fB W H s pol draws) G' (R.take i) cy.1 k ∧ GoneAt gg 4356 G' wr ∧ Below gg w4 wr) (fun _ k _ => m - (intOf k).toNat)
        case atStart => exact ⟨0, G, by omega, rfl, rfl, REP.out.zero cy.1, G7.out, B7.out⟩
        case round =>
          clear d0 d1
          obtain ⟨k, G', hkm, rfl, rfl, hrep, hgone, hbl⟩ := hrel
          have tb2 := TB.out (i + 1)
          rw [TS.out] at tb2
          have WK : Wd gg gl i g m c tw w4 G' wr := ⟨(hbl.cell (p := ⟨gl, i * 2, none⟩) hlg).trans ((W0.out.2.2.1.cell (p := ⟨gl, i * 2, none⟩) hlg).symm.trans W0.out.1), (hbl.cell (p := ⟨gl, i * 2 + 1, none⟩) hlg).trans ((W0.out.2.2.1.cell (p := ⟨gl, i * 2 + 1, none⟩) hlg).symm.trans W0.out.2.1), hbl, hgone⟩
          have WKH := hid WK
          have REP2 := hid hrep
          clear hrep hgone hbl
          obtain ⟨d0, d1, -, -⟩ := WK
          by_cases hk : k < m
          · have hk' : (k : Int) < (m : Nat) := by omega
            have ht := (Qm.step PIC.out (Qm.jnB W H s.data.toList pol draws.data.toList)).its CAN.out.1.1 k
            obtain ⟨t, htt⟩ : ∃ t, t = Qm.it (fB W H s pol draws) k cy.1 := ⟨_, rfl⟩
            have htS : Qm.isS (Pm.blackB W H s.data.toList) t = true := by rw [htt]; exact ht
            have hend := CAN.out.step_end k
            have hpk : ps.getD k (0, 0) = Qm.fromP t := by rw [HPS.out, Qm.ptsOf_getD _ _ _ (by rw [← HM.out]; exact hk), htt]
            have hpk2 : ps.getD ((k + 1) % ps.length) (0, 0) = Qm.en t := by
              rw [HPS.out, Qm.ptsOf_len, Qm.ptsOf_getD _ _ _ (Nat.mod_lt _ (by rw [← HM.out]; exact m0)), htt]
              exact hend
            have ST := hid (fun W' (hW : Below gg w4 W') => step_any g m c k tw ps HLP.out hk hle W' (HPT.out.on hW hgg1))
            rw [hpk, hpk2] at ST
            have cod := Qm.code_in PIC.out htS
            have sin := Qm.side_in PIC.out htS
            have hi4 := Qm.isS_lt htS
            have nT : G' (Qm.codeS t).toNat = false := by
              cases hc : G' (Qm.codeS t).toNat with
              | false => rfl
              | true =>
                rcases (REP2.out t htS).1 hc with h1 | ⟨i', hi', e⟩
                · rw [htt] at h1; exact absurd h1 (FR.out k)
                · rw [htt] at e; exact absurd e.symm (CAN.out.1.2.2.2 i' k hi' (by rw [← HM.out]; exact hk))
            have nBf : ¬ (t.2.1 < cy.1.2.1 ∨ (t.2.1 = cy.1.2.1 ∧ t.1 < cy.1.1)) := by
              have := CAN.out.least k
              rw [← htt] at this
              simp only [Qm.key] at this
              have := Qm.side_in PIC.out CAN.out.1.1
              omega
            have HT := hid htt
            have IS := hid (fun W' => isSide_yes W H s t W2 H2 HL.out htS W')
            have CD := hid (fun W' => code_any t hi4 sin.1 (by omega) sin.2.2.1 (by omega) W')
            have RDX := hid (show ∀ wx, Below gg w4 wx → wx.cell? ⟨gl, i * 2, none⟩ = some (.slice (some ⟨g, 0, none⟩) m c) ∧ wx.cell? ⟨g, 0, none⟩ = some (.int .i64 cy.1.1) ∧ wx.cell? ⟨g, 1, none⟩ = some (.int .i64 cy.1.2.1) ∧ Bmp w2.heap.size W H s wx from fun wx hx => by
              have q := (HPT.out.on hx hgg1).2 0 (by rw [← HLP.out]; exact m0)
              have fs := FST.out
              rw [← HPS.out] at fs
              rw [fs] at q
              exact ⟨(hx.cell (p := ⟨gl, i * 2, none⟩) hlg).trans ((W0.out.2.2.1.cell (p := ⟨gl, i * 2, none⟩) hlg).symm.trans W0.out.1), q.1, q.2, BM.out.on hx k4⟩)
            obtain ⟨xb, hxb⟩ : ∃ x, x = cy.1.1 := ⟨_, rfl⟩
            obtain ⟨yb, hyb⟩ : ∃ x, x = cy.1.2.1 := ⟨_, rfl⟩
            obtain ⟨cd, hcd⟩ : ∃ cd : Nat, Qm.codeS t = (cd : Int) := ⟨(Qm.codeS t).toNat, by omega⟩
            rw [← hxb, ← hyb] at RDX nBf
            rw [hcd] at CD cod
            have hcn : (Qm.codeS t).toNat = cd := by omega
            rw [hcn] at nT
            have HCN := hid hcn
            obtain ⟨⟨pa, pb⟩, hpp⟩ : ∃ p, Qm.fromP t = p := ⟨_, rfl⟩
            obtain ⟨⟨qa, qb⟩, hqq⟩ : ∃ p, Qm.en t = p := ⟨_, rfl⟩
            rw [hpp, hqq] at ST IS CD
            have nB2 : decide (pb < yb ∨ (pb = yb ∧ pa < xb)) = false := by
              have e1 : t.1 = pa := congrArg Prod.fst hpp
              have e2 : t.2.1 = pb := congrArg Prod.snd hpp
              rw [e1, e2] at nBf
              simpa using nBf
            dsimp only at ST IS CD
            have HTS := hid htS
            have cod2 := cod.2
            clear ht hend hpk hpk2 htt hpp hqq hcd hcn hxb hyb nBf htS sin cod
            go_wp2_with fail
            refine (ST.out _ WKH.out.2.2.1).mono ?_
            rintro e w8 ⟨rfl, hb8⟩
            have W8 := hid (WKH.out.on hlg hb8)
            clear hb8 d0 d1
            obtain ⟨r0, r1, r2, rz, r3, r4, r5⟩ := RDX.out w8 W8.out.2.2.1
            have WQ8 := hid (Wq.new (pa := pa) (pb := pb) (qa := qa) (qb := qb) hlg hgg1 47 r0 r1 r2 W8.out.2.2.1 W8.out.2.2.2)
            go_wp2_with fail
            refine (IS.out _).mono ?_
            rintro e w9 ⟨rfl, hb9⟩
            have WQ9 := hid (WQ8.out.on hlg hgg1 hb9)
            clear hb9 r0 r1 r2 r3 r4 r5 rz
            obtain ⟨b8, hb8⟩ : ∃ b8, b8 = w8.heap.size := ⟨_, rfl⟩
            rw [← hb8] at WQ9
            simp only [← hb8]
            clear hb8 WQ8
            obtain ⟨y0, y1, y2, y3, y4, y5, y6, -⟩ := WQ9.out
            have m0' : (0 : Int) < (m : Nat) := by omega
            go_wp2_with fail
            go_region_held3 (fun w' => w'.cell? ⟨b8, 0, none⟩ = some (.int .i64 pa) ∧ w'.cell? ⟨b8, 1, none⟩ = some (.int .i64 pb) ∧ w'.cell? ⟨b8 + 1, 0, none⟩ = some (.int .i64 qa) ∧ w'.cell? ⟨b8 + 1, 1, none⟩ = some (.int .i64 qb) ∧ w'.cell? ⟨gl, i * 2, none⟩ = some (.slice (some ⟨g, 0, none⟩) m c) ∧ w'.cell? ⟨g, 0, none⟩ = some (.int .i64 xb) ∧ w'.cell? ⟨g, 1, none⟩ = some (.int .i64 yb) ∧ b8 + 1 < w'.heap.size ∧ Below gg w4 w' ∧ GoneAt gg 4356 G' w')
              (first | exact WQ9.out.drew hlg hgg1 | exact (by assumption : Wq gg gl i g m c b8 pa pb qa qb xb yb w4 G' _))
              (first | (go_at_call 17; refine (before_wq (WQ9.out.drew hlg hgg1) hlg hgg1 nB2).mono ?_; rintro e w10 ⟨rfl, hW10⟩))
            have WQ10 := hid hW10
            clear y0 y1 y2 y3 y4 y5 y6
            obtain ⟨y0, y1, y2, y3, y4, y5, y6, -⟩ := hW10
            go_wp2_with fail
            refine (CD.out _).mono ?_
            rintro e w11 ⟨rfl, hb11⟩
            have WQ11 := WQ10.out.on hlg hgg1 hb11
            have BG := hid WQ11.2.2.2.2.2.2.2.2.1
            have GG := hid WQ11.2.2.2.2.2.2.2.2.2
            clear hb11 y0 y1 y2 y3 y4 y5 y6 WQ11
            obtain ⟨gc, gf⟩ := GG.out.2 cd (by omega)
            rw [nT] at gc
            have cd0 : (0 : Int) ≤ (cd : Nat) := by omega
            have gz := GG.out.1
            go_wp2
            go_roundw
            case rel =>
              refine ⟨k + 1, Qm.mark G' cd, by omega, by go_num, by go_num, ?_, GG.out.set cd, BG.out.setCell (Nat.le_refl _) _⟩
              have := REP2.out.succ PIC.out (by rw [← HT.out]; exact HTS.out)
              rw [← HT.out, HCN.out] at this
              exact this
            case measure => simp [intOf]; omega
          · have hk' : ¬ (k : Int) < (m : Nat) := by omega
            have hkm2 : k = m := by omega
            have HKM := hid hkm2
            have WKK := WKH.out
            clear hkm2
            go_wp2
            go_roundw
            case rel =>
              refine ⟨i + 1, G', by omega, by go_num, ?_, ?_, ?_, WKK.2.2.2, WKK.2.2.1⟩
              · rw [TS.out, HKM.out]
              · rw [AS.out]
              · rw [TK.out]
                have := REP2.out
                rw [HKM.out, HM.out] at this
                exact this.whole
            case measure => simp [intOf]; omega)
    · have hlt' : ¬ (i : Int) < (n : Nat) := by omega
      have hie : i = n := by omega
      have hsz : s.size ≤ 1024 := by rw [HL.out]; exact Nat.mul_le_mul W2 H2
      have EN := hid (show (Qm.totS R i : Int) = Qm.bx (W + 1) (H + 1) (Qm.cS (Pm.blackB W H s.data.toList)) by
        rw [hie, ← RL.out, Qm.totS_all (fB W H s pol draws) R]
        exact Qm.Res.count RES.out PIC.out)
      have EA := hid (show Qm.areaS (fB W H s pol draws) R i = 2 * Qm.sN s.size (fun i => if Pm.bitAt s.data.toList i = true then 1 else 0) by
        rw [hie, ← RL.out, Qm.areaS_all, HL.out, Nat.mul_comm W H, Qm.bits_rows W H s.data.toList]
        exact Qm.Res.area RES.out PIC.out)
      have BLO := hid hbl
      have GZ := hgone.1
      clear hbl hgone hrep hie
      obtain ⟨tn, htn⟩ : ∃ tn, tn = Qm.totS R i := ⟨_, rfl⟩
      obtain ⟨ta, hta⟩ : ∃ ta, ta = Qm.areaS (fB W H s pol draws) R i := ⟨_, rfl⟩
      rw [← htn] at EN tb ab ⊢
      rw [← hta] at EA ab ⊢
      clear htn hta
      go_wp2_with fail
      go_loopw [24, 25] (fun cv iv wr => ∃ q : Nat, q ≤ s.size ∧ iv = .int .i64 q ∧ cv = .int .i64 (Qm.sN q (fun i => if Pm.bitAt s.data.toList i = true then 1 else 0)) ∧ Below gg w4 wr ∧ gg < wr.heap.size) (fun _ q _ => s.size - (intOf q).toNat)
      case atStart => exact ⟨0, by omega, rfl, rfl, BLO.out, GZ⟩
      case round =>
        obtain ⟨q, hq, rfl, rfl, hbl, hgz⟩ := hrel
        have BL := hid hbl
        obtain ⟨rz, r3, r4, r5⟩ := BM.out.on hbl k4
        clear hbl
        have bn := Qm.sN_bound (n := q) (g := fun i => if Pm.bitAt s.data.toList i = true then 1 else 0) (m := 1) (fun i _ => by split <;> omega)
        by_cases hql : q < s.size
        · have hql' : (q : Int) < (s.size : Nat) := by omega
          have q0 : (0 : Int) ≤ (q : Nat) := by omega
          have ES := hid (show Qm.sN (q + 1) (fun i => if Pm.bitAt s.data.toList i = true then 1 else 0) = Qm.sN q (fun i => if Pm.bitAt s.data.toList i = true then 1 else 0) + (if Pm.bitAt s.data.toList q = true then 1 else 0) from rfl)
          obtain ⟨v, hv⟩ : ∃ v, v = Qm.sN q (fun i => if Pm.bitAt s.data.toList i = true then 1 else 0) := ⟨_, rfl⟩
          rw [← hv] at bn ES ⊢
          clear hv
          by_cases h49 : (s[q].toNat : Int) = 49
          · rw [Pm.bitAt_yes s q hql h49] at ES
            go_wp2
            go_roundw
            case rel => exact ⟨q + 1, by omega, by go_num, by rw [ES.out]; go_num, BL.out, hgz⟩
            case measure => simp [intOf]; omega
          · rw [Pm.bitAt_no s q hql h49] at ES
            have b0 : ((s[q].toNat : Int) == 49) = false := by simpa using h49
            go_wp2
            go_roundw
            case rel => exact ⟨q + 1, by omega, by go_num, by rw [ES.out]; simp, BL.out, hgz⟩
            case measure => simp [intOf]; omega
        · have hql' : ¬ (q : Int) < (s.size : Nat) := by omega
          have hqe : q = s.size := by omega
          subst hqe
          rw [EA.out]
          obtain ⟨v, hv⟩ : ∃ v, v = Qm.sN s.size (fun i => if Pm.bitAt s.data.toList i = true then 1 else 0) := ⟨_, rfl⟩
          rw [← hv] at bn ⊢
          clear hv
          have KS := hid (fun W' => keepSides_any W H s W' W2 H2 HL.out)
          rw [← EN.out] at KS
          go_wp2_with fail
          refine (KS.out _).mono ?_
          rintro e w12 ⟨rfl, hb12⟩
          have B12 := hid (show Below w.heap.size w w12 by
            have h1 := B4.out.size
            have h2 : w.heap.size ≤ gg := by rw [HG.out]; exact h1
            exact (B4.out.trans (BL.out.mono h2)).trans (hb12.mono (by omega)))
          clear hb12
          go_wp2
          go_ret
          exact ⟨rfl, B12.out⟩
end Go.Proofs.Ytgapfjjdccohkaa
