import Derived.Test.YtljfiefobnncaaaK31
import Derived.Test.YtljfiefobnncaaaK29

/- outlinekeep: spread. -/
namespace Go.Proofs.Ytljfiefobnncaaa
open Go.RowKit
attribute [local go_sem ↓] Go.wp_at_zero Go.wp_at_succ

/-- In the region that asks for two pixels. -/
def SB (B gm k W H : Nat) (s : ByteArray) (z : Int) (wr w : World) : Prop :=
  w.cell? ⟨B, 0, none⟩ = some (.int .i64 W) ∧ w.cell? ⟨B, 1, none⟩ = some (.int .i64 H) ∧ w.cell? ⟨B, 2, none⟩ = some (.string s) ∧ w.cell? ⟨gm, k, none⟩ = some (.int .i64 z) ∧ Below wr.heap.size wr w ∧ B < w.heap.size ∧ gm < w.heap.size
theorem SB.on {B gm k W H : Nat} {s : ByteArray} {z : Int} {wr w w' : World} (h : SB B gm k W H s z wr w) (hb : Below w.heap.size w w') : SB B gm k W H s z wr w' := by
  obtain ⟨h1, h2, h3, h4, h5, h6, h7⟩ := h
  exact ⟨(hb.cell (p := ⟨B, 0, none⟩) h6).trans h1, (hb.cell (p := ⟨B, 1, none⟩) h6).trans h2, (hb.cell (p := ⟨B, 2, none⟩) h6).trans h3, (hb.cell (p := ⟨gm, k, none⟩) h7).trans h4, h5.trans (hb.mono h5.size), Nat.lt_of_lt_of_le h6 hb.size, Nat.lt_of_lt_of_le h7 hb.size⟩
theorem black_sb {B gm k W H : Nat} {s : ByteArray} {z : Int} {wr w : World} (h : SB B gm k W H s z wr w) (hw2 : W ≤ 32) (hh2 : H ≤ 32) (hl : s.size = W * H) (x y : Int) :
    Calls Try.prog 42 #[.agg #[.int .i64 W, .int .i64 H, .string s], .int .i64 x, .int .i64 y] w fun e w' => e = .returned (.bool (Pm.blackB W H s.data.toList x y)) ∧ SB B gm k W H s z wr w' :=
  (keepBlack_any W H s x y w hw2 hh2 hl).mono fun _ _ ⟨h1, h2⟩ => ⟨h1, h.on (by rw [h2]; exact (Below.refl _ _).alloc (Nat.le_refl _) _)⟩
theorem bmp_new (w : World) (W H : Nat) (s : ByteArray) : Bmp w.heap.size W H s (w.alloc (.cells #[.int .i64 W, .int .i64 H, .string s] 23)) := ⟨by simp, by simp, by simp, by simp⟩
theorem Bmp.gb {b W H : Nat} {s : ByteArray} {w w' : World} {r : Option Nat} (h : Bmp b W H s w) (hb : w.grownBy w' r) (hne : r ≠ some b) : Bmp b W H s w' := by
  have e := hb.block b h.1 (Ne.symm hne)
  have C : ∀ j, w'.cell? ⟨b, j, none⟩ = w.cell? ⟨b, j, none⟩ := fun j => World.cell?_of_block (a := ⟨b, j, none⟩) e
  exact ⟨Nat.lt_of_lt_of_le h.1 hb.size, (C _).trans h.2.1, (C _).trans h.2.2.1, (C _).trans h.2.2.2⟩

theorem Qm.cellP_ix {W k : Nat} {u v : Int} (h : Qm.cellP W k = (u, v)) : (v + 1) * ((W : Int) + 2) + u + 1 = (k : Nat) := by
  simp only [Qm.cellP, Prod.mk.injEq] at h
  obtain ⟨rfl, rfl⟩ := h
  have h1 := congrArg (fun n : Nat => (n : Int)) (Nat.div_add_mod k (W + 2))
  simp only [Int.natCast_add, Int.natCast_mul] at h1
  rw [Int.mul_comm] at h1
  rw [show ((k / (W + 2) : Nat) : Int) - 1 + 1 = ((k / (W + 2) : Nat) : Int) by omega]
  generalize ((k / (W + 2) : Nat) : Int) = a at *
  generalize ((k % (W + 2) : Nat) : Int) = b at *
  have : ((2 : Nat) : Int) = 2 := rfl
  rw [this] at h1
  omega

set_option maxRecDepth 4000 in
set_option maxHeartbeats 4000000 in
theorem spread_any (W H : Nat) (s : ByteArray) (gm capm fr n : Nat) (near j : Bool) (M : Nat → Int) (w : World) (W1 : 1 ≤ W) (W2 : W ≤ 32) (H1 : 1 ≤ H) (H2 : H ≤ 32) (hl : s.size = W * H) (hM : MkAt gm ((W + 2) * (H + 2)) M w) (hfr : fr < (W + 2) * (H + 2)) (hf : M fr = 0) (hn : 0 < n) (hn2 : n ≤ 5000) (hc : Qm.Cl (Pm.blackB W H s.data.toList) j W H M)
    (hnear : near = true ↔ Pm.blackB W H s.data.toList (Qm.cellP W fr).1 (Qm.cellP W fr).2 = j) :
    Calls Try.prog 43 #[.agg #[.int .i64 W, .int .i64 H, .string s], .slice (some ⟨gm, 0, none⟩) ((W + 2) * (H + 2)) capm, .int .i64 fr, .int .i64 n, .bool near] w fun e w' => e = .returned (.tuple #[]) ∧ ∃ M', MkAt gm ((W + 2) * (H + 2)) M' w' ∧ (∀ k, k < (W + 2) * (H + 2) → (Qm.Cn (Pm.blackB W H s.data.toList) j W H (Qm.cellP W fr) (Qm.cellP W k) → M k = 0 ∧ M' k = (n : Int)) ∧ (¬ Qm.Cn (Pm.blackB W H s.data.toList) j W H (Qm.cellP W fr) (Qm.cellP W k) → M' k = M k)) ∧ w.grownBy w' (some gm) := by
  obtain ⟨ii, hii, hi0, hi1, hi2⟩ := info_parts infoInt
  have HL := hid hl
  have HC := hid hc
  have HM := hid hM
  have hgm := hM.1
  have NEAR := hid hnear
  have BLK := hid (fun (B gm k : Nat) (z : Int) (wr w : World) (h : SB B gm k W H s z wr w) (x y : Int) => black_sb h W2 H2 hl x y)
  obtain ⟨bl, hbl⟩ : ∃ bl, bl = Pm.blackB W H s.data.toList := ⟨_, rfl⟩
  rw [← hbl] at HC NEAR BLK ⊢
  obtain ⟨T, hT⟩ : ∃ T, T = (W + 2) * (H + 2) := ⟨_, rfl⟩
  have TB : T ≤ 1156 := by rw [hT]; exact Nat.mul_le_mul (show W + 2 ≤ 34 by omega) (show H + 2 ≤ 34 by omega)
  have START := hid (Qm.SP.start (bl := bl) (j := j) (M := M) (n := (n : Int)) hfr hf (by omega))
  have OUT := hid (show ∀ M', Qm.SP bl j W H M M' fr n [] → ∀ k, k < T → (Qm.Cn bl j W H (Qm.cellP W fr) (Qm.cellP W k) → M k = 0 ∧ M' k = (n : Int)) ∧ (¬ Qm.Cn bl j W H (Qm.cellP W fr) (Qm.cellP W k) → M' k = M k) from fun M' h k hk => h.out hfr hf HC.out k (by rw [← hT]; exact hk))
  have MK1 := hid (hM.set (k := fr) hfr (n : Int))
  have CIN := hid (show ∀ i, i < T → Qm.InG W H (Qm.cellP W i) from fun i hi => Qm.cellP_in (by rw [← hT]; exact hi))
  have c0 := hM.2.1 fr hfr
  have f0 := hM.2.2 fr
  rw [← hT] at hfr MK1
  simp only [← hT]
  have HT := hid hT
  clear hM hl hc hnear hbl hT hf
  obtain ⟨z0, hz0⟩ : ∃ z0, z0 = M fr := ⟨_, rfl⟩
  rw [← hz0] at c0
  have e0 : (0 : Int) ≤ (fr : Nat) := by omega
  have e1 : ((fr : Nat) : Int) < (T : Nat) := by omega
  clear hz0
  go_enter Try.func43, Try.ntmps43
  obtain ⟨Y, hY⟩ : ∃ Y, Y = (w.setCell ⟨gm, fr, none⟩ (.int .i64 (n : Nat))).alloc (.cells #[.int .i64 W, .int .i64 H, .string s] 23) := ⟨_, rfl⟩
  have YZ : Y.heap.size = w.heap.size + 1 := by rw [hY]; simp
  have YG := hid (show w.grownBy Y (some gm) by rw [hY]; exact gb_trans (set_grown (Below.refl _ _) ⟨gm, fr, none⟩) (grown_of_below ((Below.refl _ _).alloc (Nat.le_refl _) _) _))
  have YM := hid (show MkAt gm T (Qm.upM M fr n) Y by rw [hY]; exact MK1.out.on ((Below.refl _ _).alloc (Nat.le_refl _) _))
  have YB := hid (show Bmp w.heap.size W H s Y by
    rw [hY]
    have h := bmp_new (w.setCell ⟨gm, fr, none⟩ (.int .i64 (n : Nat))) W H s
    rwa [World.size_setCell] at h)
  have O0 := hid (show (Y.alloc (.cells #[.int .i64 (fr : Int)] 3)).ownsRow (w.heap.size + 1) 3 1 (.slice (some ⟨w.heap.size + 1, 0, none⟩) 1 1) 1 (numV [fr]) by
    have := own_one Y (w.heap.size + 1) fr 3 (by omega)
    rwa [YZ] at this)
  have AY := hid (show Below Y.heap.size Y (Y.alloc (.cells #[.int .i64 (fr : Int)] 3)) from (Below.refl _ _).alloc (Nat.le_refl _) _)
  go_wp2_with fail
  rw [← hY]
  clear hY c0 f0
  go_loopw [11] (fun tv wr => ∃ (M' : Nat → Int) (td : List Nat) (g cap : Nat), tv = .slice (some ⟨g, 0, none⟩) td.length cap ∧ Hid (wr.ownsRow (w.heap.size + 1) 3 1 (.slice (some ⟨g, 0, none⟩) td.length cap) td.length (numV td)) ∧ Hid (Qm.SP bl j W H M M' fr n td) ∧ Hid (MkAt gm T M' wr) ∧ Hid (Bmp w.heap.size W H s wr) ∧ Hid (w.grownBy wr (some gm)) ∧ 2 * zc gm T wr + td.length ≤ 2313) (fun tv wr => 2 * zc gm T wr + slLen tv)
  case atStart => exact ⟨_, [fr], w.heap.size + 1, 1, rfl, O0, START, YM.out.on AY.out, YB.out.on AY.out YB.out.1, gb_below YG.out AY.out YG.out.size, by have : zc gm T (Y.alloc (.cells #[.int .i64 (fr : Int)] 3)) ≤ T := Qm.cntP_le _ T; simp only [List.length_singleton]; omega⟩
  case round =>
    clear O0 START YM YB YG AY YZ
    clear Y
    obtain ⟨M', td, g, cap, rfl, hO, hSP, hMk, hBm, hG, htd⟩ := hrel
    obtain ⟨wo, rfl⟩ : ∃ wo, wo = wr := ⟨_, rfl⟩
    rcases List.eq_nil_or_concat td with htd0 | ⟨t0, a, htd0⟩
    · subst htd0
      have FIN := hid (OUT.out M' hSP.out)
      go_wp2
      refine bodyPost_end (v := .tuple #[]) (by simp [results, Try.results43, go_sem]) rfl ?_
      exact ⟨rfl, M', hMk.out, FIN.out, hG.out⟩
    · subst htd0
      have elen : (t0.concat a).length = t0.length + 1 := by simp
      have ecat : t0.concat a = t0 ++ [a] := by simp
      rw [ecat] at elen hO hSP htd ⊢
      rw [elen] at hO htd ⊢
      obtain ⟨l0, hl0⟩ : ∃ l0, l0 = t0.length := ⟨_, rfl⟩
      rw [← hl0] at hO htd ⊢
      have HL0 := hid hl0
      have NU := (own_nums hO.out).1
      have ca := NU.2 l0 (by rw [List.length_append, ← hl0]; simp)
      rw [Qm.getD_app_r _ _ _ _ (by omega), ← hl0, Nat.sub_self, List.getD_cons_zero] at ca
      have hgz := NU.1
      have OP := hid (own_pop hO.out)
      have hcap : l0 + 1 ≤ cap := by
        obtain ⟨_, c', e, h⟩ := own_cap hO.out
        injection e with _ _ e; omega
      have SQ0 := hid hSP.out.pop
      have aT : a < T := by rw [HT.out]; exact SQ0.out.ati.1
      obtain ⟨xm, hxm⟩ : ∃ xm, xm = a % (W + 2) := ⟨_, rfl⟩
      obtain ⟨ym, hym⟩ : ∃ ym, ym = a / (W + 2) := ⟨_, rfl⟩
      have cx : (a : Int) % ((W : Int) + 2) = (xm : Nat) := by rw [hxm]; simp
      have cy : (a : Int) / ((W : Int) + 2) = (ym : Nat) := by rw [hym]; simp
      have CA := hid (show Qm.cellP W a = ((xm : Int) - 1, (ym : Int) - 1) by rw [hxm, hym]; rfl)
      have ga := CIN.out a aT
      rw [CA.out] at ga
      simp only [Qm.InG] at ga
      have w0 : ¬ (W : Int) + 2 = 0 := by omega
      have w1 : (((W : Int) + 2) == 0) = false := by simp; omega
      obtain ⟨K, hK⟩ : ∃ K, K = 2 * zc gm T wo + l0 := ⟨_, rfl⟩
      have HK := hid hK
      obtain ⟨bw0, bw1, bw2, bw3⟩ := hBm.out
      have l1 : (l0 : Int) + 1 - 1 = (l0 : Nat) := by omega
      have l2 : (0 : Int) ≤ (l0 : Nat) := by omega
      have l3 : ((l0 : Nat) : Int) < (l0 : Int) + 1 := by omega
      have l4 : ((l0 : Nat) : Int) ≤ (cap : Nat) := by omega
      clear NU hxm hym hK hl0 elen ecat
      have hKb : K ≤ 2312 := by have := HK.out; omega
      go_wp2_with fail
      clear ca bw0 bw1 bw2 bw3 l1 l2 l3 l4 cx cy w0 w1
      go_loopw [11, 15] (fun tv dv wr => ∃ (d : Nat) (M2 : Nat → Int) (t1 : List Nat) (g1 cap1 : Nat), d ≤ 9 ∧ dv = .int .i64 d ∧ tv = .slice (some ⟨g1, 0, none⟩) t1.length cap1 ∧ Hid (wr.ownsRow (w.heap.size + 1) 3 1 (.slice (some ⟨g1, 0, none⟩) t1.length cap1) t1.length (numV t1)) ∧ Hid (Qm.SQ bl j W H M M2 fr n t1 a d) ∧ Hid (MkAt gm T M2 wr) ∧ Hid (Bmp w.heap.size W H s wr) ∧ Hid (w.grownBy wr (some gm)) ∧ 2 * zc gm T wr + t1.length ≤ K) (fun _ d _ => 9 - (intOf d).toNat)
      case atStart => exact ⟨0, M', t0, g, cap, by omega, rfl, by rw [← HL0.out], by rw [← HL0.out]; exact OP.out, SQ0, hMk, hBm, hG, by have := HK.out; have := HL0.out; omega⟩
      case round =>
        clear hO hSP hMk hBm hG SQ0 OP
        obtain ⟨d, M2, t1, g1, cap1, hd9, rfl, rfl, hO, hSQ, hMk, hBm, hG, hz⟩ := hrel
        obtain ⟨l1, hl1⟩ : ∃ l1, l1 = t1.length := ⟨_, rfl⟩
        rw [← hl1] at hO hz ⊢
        have HL1 := hid hl1
        have DR := hid (show Below wr.heap.size wr wr.drew from ⟨rfl, rfl, rfl, Nat.le_refl _, fun _ _ => rfl⟩)
        by_cases hd : d < 9
        · obtain ⟨dm, hdm⟩ : ∃ dm, dm = d % 3 := ⟨_, rfl⟩
          obtain ⟨dq, hdq⟩ : ∃ dq, dq = d / 3 := ⟨_, rfl⟩
          have ed1 : (d : Int) % 3 = (dm : Nat) := by rw [hdm]; simp
          have ed2 : (d : Int) / 3 = (dq : Nat) := by rw [hdq]; simp
          obtain ⟨u, hu⟩ : ∃ u : Int, (xm : Int) - 1 + (dm : Nat) - 1 = u := ⟨_, rfl⟩
          obtain ⟨v, hv⟩ : ∃ v : Int, (ym : Int) - 1 + (dq : Nat) - 1 = v := ⟨_, rfl⟩
          have NB := hid (show Qm.nbP (Qm.cellP W a) d = (u, v) by rw [CA.out, ← hu, ← hv, hdm, hdq]; rfl)
          have dmb : dm < 3 := by omega
          have dqb : dq < 3 := by omega
          obtain ⟨bw0, bw1, bw2, bw3⟩ := hBm.out
          have d0 : (0 : Int) ≤ (d : Nat) := by omega
          have d9 : ((d : Nat) : Int) < 9 := by omega
          clear hdm hdq hl1
          by_cases hin : -1 ≤ u ∧ u ≤ W ∧ -1 ≤ v ∧ v ≤ H
          · by_cases hev : near = false ∧ d % 2 = 0
            · obtain ⟨rfl, hev⟩ := hev
              have SK := hid (hSQ.out.even (by omega) hd hev (fun e => by have := NEAR.out.2 e; simp at this))
              have b1 : decide (u < -1) = false := by simp; omega
              have b2 : decide (v < -1) = false := by simp; omega
              have b3 : decide ((W : Int) < u) = false := by simp; omega
              have b4 : decide ((H : Int) < v) = false := by simp; omega
              have b5 : ((d : Int) % 2 == 0) = true := by simp; omega
              have b6 : (d : Int) % 2 = 0 := by omega
              go_wp2
              go_roundw
              case rel => exact ⟨d + 1, M2, t1, g1, cap1, by omega, by go_num, by rw [← HL1.out], by rw [← HL1.out]; exact hO.out, SK, hMk, hBm, hG, by have := HL1.out; omega⟩
              case measure => simp [intOf]; omega
            · obtain ⟨k, hk, hkuv⟩ := Qm.cellP_of (W := W) (H := H) (p := (u, v)) (by simp only [Qm.InG]; exact hin)
              have EK := hid (hkuv.trans NB.out.symm)
              have kk := Qm.cellP_ix hkuv
              rw [← HT.out] at hk
              have KT := hid hk
              obtain ⟨pr, hpr⟩ : ∃ pr : Int, (v + 1) * ((W : Int) + 2) = pr := ⟨_, rfl⟩
              rw [hpr] at kk
              have prb : -100 ≤ pr ∧ pr ≤ 2000 := by omega
              have PAR := hid (show d % 2 = 0 → bl (Qm.cellP W fr).1 (Qm.cellP W fr).2 = j from fun he => NEAR.out.1 (by cases near with | true => rfl | false => exact absurd ⟨rfl, he⟩ hev))
              have b1 : decide (u < -1) = false := by simp; omega
              have b2 : decide (v < -1) = false := by simp; omega
              have b3 : decide ((W : Int) < u) = false := by simp; omega
              have b4 : decide ((H : Int) < v) = false := by simp; omega
              have k0 : (0 : Int) ≤ (k : Nat) := by omega
              have k1 : ((k : Nat) : Int) < (T : Nat) := by omega
              have KEEP := hid (show ∀ w7, Below wr.heap.size wr w7 → w7.ownsRow (w.heap.size + 1) 3 1 (.slice (some ⟨g1, 0, none⟩) l1 cap1) l1 (numV t1) ∧ MkAt gm T M2 w7 ∧ Bmp w.heap.size W H s w7 ∧ w.grownBy w7 (some gm) ∧ zc gm T w7 = zc gm T wr from fun w7 hb => ⟨own_below hO.out hb, hMk.out.on hb, hBm.out.on hb hBm.out.1, gb_below hG.out hb hG.out.size, by rw [zc_of (hMk.out.on hb), zc_of hMk.out]⟩)
              have CK := hMk.out.2.1 k hk
              obtain ⟨z, hz2⟩ : ∃ z, z = M2 k := ⟨_, rfl⟩
              rw [← hz2] at CK
              have HZ := hid hz2
              have two : (near = true) ∨ (near = false ∧ d % 2 ≠ 0) := by cases near with | true => exact .inl rfl | false => exact .inr ⟨rfl, fun e => hev ⟨rfl, e⟩⟩
              have S0 := hid (show SB w.heap.size gm k W H s z wr wr.drew from ⟨bw1, bw2, bw3, CK, DR.out, bw0, hMk.out.1⟩)
              clear hev hin hz2 hkuv hk
              rcases two with rfl | ⟨rfl, hodd⟩
              rotate_left
              have b5 : ((d : Int) % 2 == 0) = false := by simp; omega
              have b6 : ¬ (d : Int) % 2 = 0 := by omega
              all_goals (
                by_cases hz0 : z = 0
                · subst hz0
                  go_wp2_with fail
                  go_region_held3 (fun w' => w'.cell? ⟨w.heap.size, 0, none⟩ = some (.int .i64 W) ∧ w'.cell? ⟨w.heap.size, 1, none⟩ = some (.int .i64 H) ∧ w'.cell? ⟨w.heap.size, 2, none⟩ = some (.string s) ∧ w'.cell? ⟨gm, k, none⟩ = some (.int .i64 0) ∧ Below wr.heap.size wr w' ∧ w.heap.size < w'.heap.size ∧ gm < w'.heap.size)
                    (first | exact S0.out | exact (by assumption : SB w.heap.size gm k W H s 0 wr _))
                    (first | (go_at_call_of 42 (Value.int .i64 u); refine (BLK.out _ _ _ _ _ _ (by first | exact S0.out | assumption : SB w.heap.size gm k W H s 0 wr _) u v).mono ?_; rintro e w6 ⟨rfl, hS6⟩) | (go_at_call 42; refine (BLK.out _ _ _ _ _ _ (by assumption : SB w.heap.size gm k W H s 0 wr _) _ _).mono ?_; rintro e w7 ⟨rfl, hS7⟩))
                  have S7 := hid hS7
                  clear hS6 hS7 CK S0
                  obtain ⟨bw1, bw2, bw3, CK, hB7, -, -⟩ := S7.out
                  have Q := hid (KEEP.out w7 hB7)
                  have FK := Q.out.2.1.2.2 k
                  clear hB7
                  cases hcc : (bl u v == bl ((xm : Int) - 1) ((ym : Int) - 1))
                  · have SK := hid (hSQ.out.other (by rw [NB.out, CA.out]; intro e; simp only at e; rw [e] at hcc; simp at hcc))
                    go_wp2
                    go_roundw
                    case rel => exact ⟨d + 1, M2, t1, g1, cap1, by omega, by go_num, by rw [← HL1.out], by rw [← HL1.out]; exact Q.out.1, SK, hid Q.out.2.1, hid Q.out.2.2.1, hid Q.out.2.2.2.1, by have := HL1.out; have := Q.out.2.2.2.2; omega⟩
                    case measure => simp [intOf]; omega
                  · have SK := hid (hSQ.out.take (by omega) hd (by rw [← HT.out]; exact KT.out) HZ.out.symm EK.out (by rw [NB.out, CA.out]; exact eq_of_beq hcc) PAR.out)
                    have X8 := hid (show MkAt gm T (Qm.upM M2 k n) (w7.setCell ⟨gm, k, none⟩ (.int .i64 (n : Nat))) from Q.out.2.1.set KT.out n)
                    have O8 := hid (own_keep Q.out.1 (g := gm) (by omega) (set_grown (Below.refl _ _) ⟨gm, k, none⟩ (v := .int .i64 (n : Nat))))
                    have G8 := hid (gb_trans Q.out.2.2.2.1 (set_grown (Below.refl _ _) ⟨gm, k, none⟩ (v := .int .i64 (n : Nat))))
                    have B8 := hid (Q.out.2.2.1.gb (set_grown (Below.refl _ _) ⟨gm, k, none⟩ (v := .int .i64 (n : Nat))) (by simp only [ne_eq, Option.some.injEq]; omega))
                    have lb : l1 ≤ 2312 := by omega
                    have z8 := G8.out.size
                    have hb8 := B8.out.1
                    have m3 : l1 + 1 ≤ maxLen := by unfold maxLen; omega
                    have m4 : (l1 + 1) * 8 ≤ 140737488355328 := by omega
                    have m5 : w.heap.size + 1 ≤ ((w7.setCell ⟨gm, k, none⟩ (.int .i64 (n : Nat))).alloc (.cells #[.int .i64 (k : Nat)] 3)).heap.size := by simp at z8 ⊢; omega
                    have C1 := hid (cell_one_new (w7.setCell ⟨gm, k, none⟩ (.int .i64 (n : Nat))) (.int .i64 (k : Nat)) 3)
                    rw [World.size_setCell] at C1
                    have A8 := hid (show Below (w7.setCell ⟨gm, k, none⟩ (.int .i64 (n : Nat))).heap.size (w7.setCell ⟨gm, k, none⟩ (.int .i64 (n : Nat))) ((w7.setCell ⟨gm, k, none⟩ (.int .i64 (n : Nat))).alloc (.cells #[.int .i64 (k : Nat)] 3)) from (Below.refl _ _).alloc (Nat.le_refl _) _)
                    go_wp2_with (first
                      | (at_builtin; refine wpList_append_own_at _ rfl _ _ 33 rfl (w.heap.size + 1) 3 ii (.int .i64 0) 1 8 Try.underlying33 hii hi0 hi1 hi2 rfl (by decide) _ _ _ rfl (O8.out.alloc _) ⟨_, 0, none⟩ 1 1 [.int .i64 (k : Nat)] rfl rfl C1.out (by intro u hu; simp at hu; subst hu; rfl) m3 m4 m5 ?_))
                    intro v9 w9 o9 g9 _ _
                    have o9' : w9.ownsRow (w.heap.size + 1) 3 1 v9 (l1 + 1) (numV (t1 ++ [k])) := by rw [numV_snoc]; exact o9
                    obtain ⟨h9, cap9, rfl, -⟩ := own_src o9' (by omega)
                    have g1b : w.heap.size + 1 ≤ g1 := (own_nums O8.out).2.1
                    have BL9 := hid (show Below (w.heap.size + 1) ((w7.setCell ⟨gm, k, none⟩ (.int .i64 (n : Nat))).alloc (.cells #[.int .i64 (k : Nat)] 3)) w9 from gb_below_of g9 g1b m5)
                    have X9 := hid ((X8.out.on A8.out).gb g9 (by simp [Value.ownBlock]; omega))
                    have B9 := hid ((B8.out.on A8.out hb8).on BL9.out (by omega))
                    have G9 := hid (gb_below (gb_below G8.out A8.out G8.out.size) BL9.out (by omega))
                    have O9 := hid o9'
                    have Z9 := hid (show zc gm T w9 + 1 = zc gm T wr by rw [zc_of X9.out, zc_of hMk.out]; exact zc_set KT.out HZ.out.symm (by omega))
                    clear o9 g9 o9' m3 m4 m5 CK FK bw0 bw1 bw2 bw3 z8 hb8
                    go_wp2
                    go_roundw
                    case rel => exact ⟨d + 1, Qm.upM M2 k n, t1 ++ [k], h9, cap9, by omega, by go_num, by rw [List.length_append, ← HL1.out]; rfl, by rw [List.length_append, ← HL1.out]; exact O9.out, SK, X9, B9, G9, by have := HL1.out; have := Z9.out; simp only [List.length_append, List.length_singleton]; omega⟩
                    case measure => simp [intOf]; omega
                · have SK := hid (hSQ.out.taken EK.out (by rw [← HZ.out]; exact hz0))
                  have zz : (z == 0) = false := by simp; exact hz0
                  have zd : decide (z = 0) = false := by simp; exact hz0
                  go_wp2_with fail
                  go_quiet (fail)
                  have Q := hid (KEEP.out (wr.drewN nq) ⟨rfl, rfl, rfl, Nat.le_refl _, fun _ _ => rfl⟩)
                  go_wp2
                  all_goals (
                    go_roundw
                    case rel => exact ⟨d + 1, M2, t1, g1, cap1, by omega, by go_num, by rw [← HL1.out], by rw [← HL1.out]; exact Q.out.1, SK, hid Q.out.2.1, hid Q.out.2.2.1, hid Q.out.2.2.2.1, by have := HL1.out; have := Q.out.2.2.2.2; omega⟩
                    case measure => simp [intOf]; omega))
          · have SK := hid (hSQ.out.beyond (by rw [NB.out]; simp only [Qm.InG]; exact hin))
            have wy : u < -1 ∨ (¬ u < -1 ∧ v < -1) ∨ (¬ u < -1 ∧ ¬ v < -1 ∧ (W : Int) < u) ∨ (¬ u < -1 ∧ ¬ v < -1 ∧ ¬ (W : Int) < u ∧ (H : Int) < v) := by omega
            rcases wy with y1 | ⟨y1, y2⟩ | ⟨y1, y2, y3⟩ | ⟨y1, y2, y3, y4⟩
            all_goals (
              clear hin
              go_wp2
              go_roundw
              case rel => exact ⟨d + 1, M2, t1, g1, cap1, by omega, by go_num, by rw [← HL1.out], by rw [← HL1.out]; exact hO.out, SK, hMk, hBm, hG, by have := HL1.out; omega⟩
              case measure => simp [intOf]; omega)
        · have ed : d = 9 := by omega
          subst ed
          have SPN := hid hSQ.out.finish
          go_wp2
          go_roundw
          case rel => exact ⟨M2, t1, g1, cap1, by rw [← HL1.out], by rw [← HL1.out]; exact hO.out, SPN, hMk, hBm, hG, by have := HL1.out; omega⟩
          case measure => have := HK.out; simp [slLen]; omega
end Go.Proofs.Ytljfiefobnncaaa

/- outlinekeep: pieces. -/
namespace Go.Proofs.Ytljfiefobnncaaa
open Go.RowKit
attribute [local go_sem ↓] Go.wp_at_zero Go.wp_at_succ

namespace Qm
section
variable (bl : Int → Int → Bool) (j : Bool) (W H : Nat)
/-- Marked is what holds together with a pixel before i. -/
def MI (M : Nat → Int) (i : Nat) : Prop := (∀ k, k < (W + 2) * (H + 2) → 0 ≤ M k) ∧ ∀ k, k < (W + 2) * (H + 2) → (M k ≠ 0 ↔ ∃ a, a < i ∧ Cn bl j W H (cellP W a) (cellP W k))
end
section
variable {bl : Int → Int → Bool} {j : Bool} {W H : Nat} {M M' : Nat → Int} {i : Nat} {n : Int}
theorem MI.start : MI bl j W H (fun _ => 0) 0 := ⟨fun _ _ => Int.le_refl 0, fun k _ => ⟨fun h => absurd rfl h, fun ⟨a, h, _⟩ => by omega⟩⟩
theorem MI.cl (h : MI bl j W H M i) : Cl bl j W H M := fun a k ha hk h0 ad => by
  obtain ⟨r, hr, hc⟩ := (h.2 a ha).1 h0
  exact (h.2 k hk).2 ⟨r, hr, .step _ _ hc ad (cellP_in hk)⟩
theorem MI.old (h : MI bl j W H M i) (hi : i < (W + 2) * (H + 2)) (h0 : M i ≠ 0) : MI bl j W H M (i + 1) ∧ ¬ Fst bl j W H i := by
  obtain ⟨r, hr, hc⟩ := (h.2 i hi).1 h0
  refine ⟨⟨h.1, fun k hk => ⟨fun hm => ?_, fun ⟨a, ha, ca⟩ => ?_⟩⟩, fun hf => hf r hr (hc.symm (cellP_in (by omega)))⟩
  · obtain ⟨a, ha, ca⟩ := (h.2 k hk).1 hm
    exact ⟨a, by omega, ca⟩
  · rcases Nat.lt_or_ge a i with h1 | h1
    · exact (h.2 k hk).2 ⟨a, h1, ca⟩
    · obtain rfl : a = i := by omega
      exact (h.2 k hk).2 ⟨r, hr, hc.trans ca⟩
theorem MI.new (h : MI bl j W H M i) (hi : i < (W + 2) * (H + 2)) (h0 : M i = 0) (hn : 0 < n) (hM : ∀ k, k < (W + 2) * (H + 2) → (Cn bl j W H (cellP W i) (cellP W k) → M k = 0 ∧ M' k = n) ∧ (¬ Cn bl j W H (cellP W i) (cellP W k) → M' k = M k)) : MI bl j W H M' (i + 1) ∧ Fst bl j W H i := by
  refine ⟨⟨fun k hk => ?_, fun k hk => ⟨fun hm => ?_, fun ⟨a, ha, ca⟩ => ?_⟩⟩, fun k hk hc => ?_⟩
  · by_cases c : Cn bl j W H (cellP W i) (cellP W k)
    · rw [((hM k hk).1 c).2]; omega
    · rw [(hM k hk).2 c]; exact h.1 k hk
  · by_cases c : Cn bl j W H (cellP W i) (cellP W k)
    · exact ⟨i, by omega, c⟩
    · rw [(hM k hk).2 c] at hm
      obtain ⟨a, ha, ca⟩ := (h.2 k hk).1 hm
      exact ⟨a, by omega, ca⟩
  · by_cases c : Cn bl j W H (cellP W i) (cellP W k)
    · rw [((hM k hk).1 c).2]; omega
    · rw [(hM k hk).2 c]
      rcases Nat.lt_or_ge a i with h1 | h1
      · exact (h.2 k hk).2 ⟨a, h1, ca⟩
      · obtain rfl : a = i := by omega
        exact absurd ca c
  · exact (h.2 i hi).2 ⟨k, hk, hc.symm (cellP_in hi)⟩ h0
end
/-- The pixels of a colour that are the first of their piece. -/
noncomputable def cntC (bl : Int → Int → Bool) (j : Bool) (W H : Nat) (c : Bool) (i : Nat) : Nat := cntP (fun i => bl (cellP W i).1 (cellP W i).2 = c ∧ Fst bl j W H i) i
theorem cntC_no {bl : Int → Int → Bool} {j : Bool} {W H i : Nat} (h : ¬ Fst bl j W H i) (c : Bool) : cntC bl j W H c (i + 1) = cntC bl j W H c i := cntP_no fun hp => h hp.2
theorem cntC_yes {bl : Int → Int → Bool} {j : Bool} {W H i : Nat} (h : Fst bl j W H i) {c : Bool} (e : bl (cellP W i).1 (cellP W i).2 = c) : cntC bl j W H c (i + 1) = cntC bl j W H c i + 1 ∧ cntC bl j W H (!c) (i + 1) = cntC bl j W H (!c) i :=
  ⟨cntP_yes (P := fun i => bl (cellP W i).1 (cellP W i).2 = c ∧ Fst bl j W H i) ⟨e, h⟩, cntP_no fun hp => by have := hp.1; rw [e] at this; cases c <;> simp at this⟩
end Qm

set_option maxRecDepth 4000 in
set_option maxHeartbeats 4000000 in
theorem pieces_any (W H : Nat) (s : ByteArray) (j : Bool) (w : World) (W1 : 1 ≤ W) (W2 : W ≤ 32) (H1 : 1 ≤ H) (H2 : H ≤ 32) (hl : s.size = W * H) :
    Calls Try.prog 23 #[.agg #[.int .i64 W, .int .i64 H, .string s], .bool j] w fun e w' => e = .returned (.tuple #[.int .i64 (Qm.cntC (Pm.blackB W H s.data.toList) j W H true ((W + 2) * (H + 2)) : Nat), .int .i64 (Qm.cntC (Pm.blackB W H s.data.toList) j W H false ((W + 2) * (H + 2)) : Nat)]) ∧ Below w.heap.size w w' := by
  obtain ⟨ii, hii, hi0, hi1, hi2⟩ := info_parts infoInt
  have HL := hid hl
  have BLK := hid (fun (B gm k : Nat) (z : Int) (wr w : World) (h : SB B gm k W H s z wr w) (x y : Int) => black_sb h W2 H2 hl x y)
  have SPR := hid (fun (gm capm fr n : Nat) (near : Bool) (M : Nat → Int) (w : World) => spread_any W H s gm capm fr n near j M w W1 W2 H1 H2 hl)
  obtain ⟨bl, hbl⟩ : ∃ bl, bl = Pm.blackB W H s.data.toList := ⟨_, rfl⟩
  rw [← hbl] at BLK SPR ⊢
  obtain ⟨T, hT⟩ : ∃ T, T = (W + 2) * (H + 2) := ⟨_, rfl⟩
  have TB : T ≤ 1156 := by rw [hT]; exact Nat.mul_le_mul (show W + 2 ≤ 34 by omega) (show H + 2 ≤ 34 by omega)
  have TI : ((W : Int) + 2) * ((H : Int) + 2) = (T : Nat) := by rw [hT]; simp
  have OLD := hid (fun M i (h : Qm.MI bl j W H M i) => h.old)
  have NEW := hid (fun M M' i n (h : Qm.MI bl j W H M i) => Qm.MI.new (M' := M') (n := n) h)
  have S0 := hid (Qm.MI.start (bl := bl) (j := j) (W := W) (H := H))
  simp only [← hT] at SPR OLD NEW ⊢
  have HT := hid hT
  clear hl hbl hT
  have C0 := hid (show ∀ c, Qm.cntC bl j W H c 0 = 0 from fun c => rfl)
  have CB := hid (show ∀ c i, Qm.cntC bl j W H c i ≤ i from fun c i => Qm.cntP_le _ i)
  obtain ⟨cn, hcn⟩ : ∃ cn, cn = Qm.cntC bl j W H := ⟨_, rfl⟩
  have CNO := hid (show ∀ i, ¬ Qm.Fst bl j W H i → ∀ c, cn c (i + 1) = cn c i by rw [hcn]; exact fun i h c => Qm.cntC_no h c)
  have CYES := hid (show ∀ i, Qm.Fst bl j W H i → ∀ c, bl (Qm.cellP W i).1 (Qm.cellP W i).2 = c → cn c (i + 1) = cn c i + 1 ∧ cn (!c) (i + 1) = cn (!c) i by rw [hcn]; exact fun i h c e => Qm.cntC_yes h e)
  rw [← hcn] at C0 CB ⊢
  clear hcn
  have m2 : T ≤ maxLen := by unfold maxLen; omega
  go_enter Try.func23, Try.ntmps23
  have YB := hid (bmp_new w W H s)
  have YL := hid (show Below w.heap.size w (w.alloc (.cells #[.int .i64 W, .int .i64 H, .string s] 23)) from (Below.refl _ _).alloc (Nat.le_refl _) _)
  go_wp2_with (first
    | (at_make; refine wpList_make_full _ rfl _ _ 33 rfl (w.heap.size + 1) 3 ii (.int .i64 0) 1 Try.underlying33 hii hi0 hi1 .i64 .i64 _ _ T rfl rfl (by simp) (by simp) (by rw [hi2]; omega) m2 (by simp) ?_))
  intro w3 o3 g3
  have b3 : Below (w.heap.size + 1) (w.alloc (.cells #[.int .i64 W, .int .i64 H, .string s] 23)) w3 := ⟨g3.os, g3.tape, g3.output, g3.size, fun k hk => g3.block k (by simp; omega) (by simp)⟩
  have z3 : w.heap.size + 1 < w3.heap.size := (o3.lt (w.heap.size + 1) rfl).2
  have B3 := hid (YB.out.on b3 (by omega))
  have L3 := hid (YL.out.trans (b3.mono (by omega)))
  have M3 := hid (show MkAt (w.heap.size + 1) T (fun _ => 0) w3 from ⟨z3, fun k hk => by
    have := o3.cells (g := w.heap.size + 1) rfl k _ (by have := madeInts_at T k hk; simpa using this)
    rwa [add_zero_at] at this, fun k => own_fz o3 k⟩)
  clear o3 g3 b3 z3 YB YL m2 TI
  go_wp2_with fail
  go_loopw [8, 9, 10] (fun bv wv iv wr => ∃ (i : Nat) (M : Nat → Int), i ≤ T ∧ iv = .int .i64 i ∧ bv = .int .i64 (cn true i : Nat) ∧ wv = .int .i64 (cn false i : Nat) ∧ Hid (Qm.MI bl j W H M i) ∧ Hid (MkAt (w.heap.size + 1) T M wr) ∧ Hid (Bmp w.heap.size W H s wr) ∧ Hid (Below w.heap.size w wr)) (fun _ _ i _ => T - (intOf i).toNat)
  case atStart => exact ⟨0, _, by omega, rfl, by rw [C0.out]; rfl, by rw [C0.out]; rfl, S0, M3, B3, L3⟩
  case round =>
    clear M3 B3 L3 S0 C0
    obtain ⟨i, M, hiT, rfl, rfl, rfl, hMI, hMk, hBm, hBl⟩ := hrel
    have cb1 := CB.out true i
    have cb2 := CB.out false i
    obtain ⟨c1, hc1⟩ : ∃ c1, c1 = cn true i := ⟨_, rfl⟩
    obtain ⟨c2, hc2⟩ : ∃ c2, c2 = cn false i := ⟨_, rfl⟩
    rw [← hc1] at cb1 ⊢
    rw [← hc2] at cb2 ⊢
    have HC1 := hid hc1
    have HC2 := hid hc2
    clear hc1 hc2
    by_cases hi : i < T
    · have CK := hMk.out.2.1 i hi
      obtain ⟨z, hz⟩ : ∃ z, z = M i := ⟨_, rfl⟩
      have zn : 0 ≤ z := by rw [hz]; exact hMI.out.1 i (by rw [← HT.out]; exact hi)
      rw [← hz] at CK
      have HZ := hid hz
      clear hz
      have k0 : (0 : Int) ≤ (i : Nat) := by omega
      have k1 : ((i : Nat) : Int) < (T : Nat) := by omega
      by_cases hp : 0 < z
      · have NX := hid (OLD.out M i hMI.out hi (by rw [← HZ.out]; omega))
        have N1 := hid (CNO.out i NX.out.2 true)
        have N2 := hid (CNO.out i NX.out.2 false)
        go_wp2
        go_roundw
        case rel => exact ⟨i + 1, M, by omega, by go_num, by rw [N1.out, HC1.out], by rw [N2.out, HC2.out], NX.out.1, hMk, hBm, hBl⟩
        case measure => simp [intOf]; omega
      · obtain rfl : z = 0 := by omega
        obtain ⟨xm, hxm⟩ : ∃ xm, xm = i % (W + 2) := ⟨_, rfl⟩
        obtain ⟨ym, hym⟩ : ∃ ym, ym = i / (W + 2) := ⟨_, rfl⟩
        have cx : (i : Int) % ((W : Int) + 2) = (xm : Nat) := by rw [hxm]; simp
        have cy : (i : Int) / ((W : Int) + 2) = (ym : Nat) := by rw [hym]; simp
        have xb : xm ≤ 1156 := by have : xm ≤ i := by rw [hxm]; exact Nat.mod_le _ _
                                  omega
        have yb : ym ≤ 1156 := by have : ym ≤ i := by rw [hym]; exact Nat.div_le_self _ _
                                  omega
        have CA := hid (show Qm.cellP W i = ((xm : Int) - 1, (ym : Int) - 1) by rw [hxm, hym]; rfl)
        have ctm : ((i : Nat) : Int).tmod ((W : Int) + 2) = (xm : Nat) := by rw [Int.tmod_eq_emod_of_nonneg (by omega)]; exact cx
        have wx : IntKind.i64.wrap ((xm : Int) - 1) = (xm : Int) - 1 := by rw [IntKind.wrap_i64]; omega
        have wy0 : IntKind.i64.wrap ((ym : Nat) : Int) = (ym : Nat) := by rw [IntKind.wrap_i64]; omega
        have wy : IntKind.i64.wrap ((ym : Int) - 1) = (ym : Int) - 1 := by rw [IntKind.wrap_i64]; omega
        have w0 : ¬ (W : Int) + 2 = 0 := by omega
        have w1 : (((W : Int) + 2) == 0) = false := by simp; omega
        have w2 : ¬ W + 2 = 0 := by omega
        obtain ⟨bw0, bw1, bw2, bw3⟩ := hBm.out
        have S0 := hid (show SB w.heap.size (w.heap.size + 1) i W H s 0 wr wr.drew from ⟨bw1, bw2, bw3, CK, ⟨rfl, rfl, rfl, Nat.le_refl _, fun _ _ => rfl⟩, bw0, hMk.out.1⟩)
        clear hxm hym hp zn
        go_wp2_with fail
        go_region_held3 (fun w' => w'.cell? ⟨w.heap.size, 0, none⟩ = some (.int .i64 W) ∧ w'.cell? ⟨w.heap.size, 1, none⟩ = some (.int .i64 H) ∧ w'.cell? ⟨w.heap.size, 2, none⟩ = some (.string s) ∧ w'.cell? ⟨w.heap.size + 1, i, none⟩ = some (.int .i64 0) ∧ Below wr.heap.size wr w' ∧ w.heap.size < w'.heap.size ∧ w.heap.size + 1 < w'.heap.size)
          (first | exact S0.out | exact (by assumption : SB w.heap.size (w.heap.size + 1) i W H s 0 wr _))
          (first | (go_at_call 42; refine (BLK.out _ _ _ _ _ _ S0.out _ _).mono ?_; rintro e w6 ⟨rfl, hS6⟩))
        try simp only [ctm, wx, wy0, wy]
        have S6 := hid hS6
        clear hS6 S0 CK bw0 bw1 bw2 bw3
        obtain ⟨bw1, bw2, bw3, -, hB6, -, -⟩ := S6.out
        have M6 := hid (hMk.out.on hB6)
        have B6 := hid (hBm.out.on hB6 hBm.out.1)
        have L6 := hid (hBl.out.trans (hB6.mono hBl.out.size))
        have z6 : w.heap.size + 1 < w6.heap.size := S6.out.2.2.2.2.2.2
        clear hB6
        have SP1 := hid (show ∀ near : Bool, (near = true ↔ bl ((xm : Int) - 1) ((ym : Int) - 1) = j) → Calls Try.prog 43 #[.agg #[.int .i64 W, .int .i64 H, .string s], .slice (some ⟨w.heap.size + 1, 0, none⟩) T T, .int .i64 (i : Nat), .int .i64 (1 + (i : Nat)), .bool near] w6 fun e w' => e = .returned (.tuple #[]) ∧ Hid (∃ M', MkAt (w.heap.size + 1) T M' w' ∧ Qm.MI bl j W H M' (i + 1) ∧ Qm.Fst bl j W H i) ∧ Hid (w6.grownBy w' (some (w.heap.size + 1))) from fun near hn => by
          have h := SPR.out (w.heap.size + 1) T i (1 + i) near M w6 M6.out hi HZ.out.symm (by omega) (by omega) hMI.out.cl (by rw [CA.out]; exact hn)
          rw [Int.natCast_add] at h
          refine h.mono ?_
          rintro e w' ⟨rfl, M', h1, h2, h3⟩
          exact ⟨rfl, ⟨M', h1, NEW.out M M' i _ hMI.out hi HZ.out.symm (by omega) h2⟩, h3⟩)
        cases hb : bl ((xm : Int) - 1) ((ym : Int) - 1)
        all_goals (
          have HB := hid (show bl (Qm.cellP W i).1 (Qm.cellP W i).2 = bl ((xm : Int) - 1) ((ym : Int) - 1) by rw [CA.out])
          go_wp2_with (first | (go_at_call 43; refine (SP1.out _ (by rw [hb]; cases j <;> simp)).mono ?_; rintro e w7 ⟨rfl, hX, hG7⟩))
          obtain ⟨M', hMk7, hMI7, hF⟩ := hX.out
          have MK7 := hid hMk7
          have MI7 := hid hMI7
          have YS := hid (CYES.out i hF _ (HB.out.trans hb))
          have B7 := hid (B6.out.gb hG7.out (by simp))
          have L7 := hid (L6.out.grown hG7.out (by omega) (fun q hq => by simp at hq; omega))
          clear hMk7 hMI7 hF hX bw1 bw2 bw3
          go_wp2
          go_roundw
          case rel => exact ⟨i + 1, M', by omega, by go_num, by first | (rw [YS.out.1, ← HC1.out]; go_num) | (rw [show cn true (i + 1) = cn true i from YS.out.2, HC1.out]), by first | (rw [YS.out.1, ← HC2.out]; go_num) | (rw [show cn false (i + 1) = cn false i from YS.out.2, HC2.out]), MI7, MK7, B7, L7⟩
          case measure => simp [intOf]; omega)
    · obtain rfl : i = T := by omega
      go_wp2
      go_ret2
      exact ⟨by rw [HC1.out, HC2.out]; rfl, hBl.out⟩
end Go.Proofs.Ytljfiefobnncaaa
