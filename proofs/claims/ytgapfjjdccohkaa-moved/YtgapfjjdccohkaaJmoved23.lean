import Derived.Test.YtgapfjjdccohkaaJmoved21
import Derived.Test.YtgapfjjdccohkaaJmoved22
import Derived.Test.YtgapfjjdccohkaaJmoved11
import Derived.Maps.AppendAt
import Derived.Test.YtgapfjjdccohkaaJmoved14

/- outlineref: Trace. -/
namespace Go.Proofs.Ytgapfjjdccohkaa
open Go.RowKit

namespace Qm
theorem Cyc.unit {bl jn : Int → Int → Bool} {c : Sd × Nat} (h : Cyc (nx bl jn) (fun s => isS bl s = true) c.1 c.2) : Unit (ptsOf (nx bl jn) c ++ [fstP (ptsOf (nx bl jn) c)]) := by
  have h0 : 0 < c.2 := h.2.1
  have hl := ptsOf_len (nx bl jn) c
  have A : ∀ i, i ≤ c.2 → (ptsOf (nx bl jn) c ++ [fstP (ptsOf (nx bl jn) c)]).getD i (0, 0) = fromP (it (nx bl jn) i c.1) := by
    intro i hi
    rcases Nat.lt_or_ge i c.2 with h1 | h1
    · rw [getD_app_l _ _ _ _ (by omega), ptsOf_getD _ c i h1]
    · obtain rfl : i = c.2 := by omega
      rw [getD_app_r _ _ _ _ (by omega), hl, Nat.sub_self, List.getD_cons_zero]
      unfold fstP
      rw [ptsOf_getD _ c 0 h0, h.2.2.1]; rfl
  intro i hi
  rw [List.length_append, hl, List.length_singleton] at hi
  rw [A i (by omega), A (i + 1) (by omega)]
  have hs := isS_lt (it_isS (jn := jn) h.1 i)
  have e : fromP (it (nx bl jn) (i + 1) c.1) = en (it (nx bl jn) i c.1) := rfl
  rw [e]
  generalize it (nx bl jn) i c.1 = t at hs ⊢
  obtain ⟨x, y, d⟩ := t
  have hd : d = 0 ∨ d = 1 ∨ d = 2 ∨ d = 3 := by have : d < 4 := hs; omega
  rcases hd with rfl | rfl | rfl | rfl <;> simp [en, fromP, unitP] <;> omega
theorem len_totS {R : List (Sd × Nat)} (h : ∀ c ∈ R, 0 < c.2) : R.length ≤ totS R R.length := by
  unfold totS
  rw [List.take_length]
  induction R with
  | nil => simp
  | cons c R ih =>
    have := ih fun c hc => h c (List.mem_cons_of_mem _ hc)
    have := h c (List.mem_cons_self ..)
    simp only [List.length_cons, List.map_cons, List.sum_cons]
    omega
theorem Res.len {bl jn : Int → Int → Bool} {R : List (Sd × Nat)} (h : Res (nx bl jn) (fun s => isS bl s = true) key R) {W H : Nat} (hp : Pic bl W H) (hw : W ≤ 32) (hh : H ≤ 32) : R.length ≤ 2178 := by
  have a := len_totS (R := R) fun c hc => (h.1 c hc).1.2.1
  have b := totS_all (nx bl jn) R
  have c := h.count hp
  have d := bx_cS bl (W + 1) (H + 1) (by omega) (by omega)
  omega
end Qm

set_option maxHeartbeats 400000 in
theorem refTrace_no (W H : Int) (s : ByteArray) (pol : Int) (draws : ByteArray) (spk : Int) (w : World) (hm : mayB W H s.data.toList pol spk = false) :
    Calls Try.prog 39 #[.agg #[.int .i64 W, .int .i64 H, .string s], .agg #[.int .i64 pol, .string draws, .int .i64 spk]] w fun e w' => e = .returned (.tuple #[.slice none 0 0, .int .i64 4]) ∧ Below w.heap.size w w' := by
  go_enter Try.func39, Try.ntmps39
  go_wp2_with fail
  refine (refCycles_no W H s pol draws spk _ hm).mono ?_
  rintro e w1 ⟨rfl, hb⟩
  have HB := hid hb
  clear hb
  go_wp2
  go_ret2
  exact ⟨rfl, Below.trans (b := _) (by go_grown) (HB.out.mono (by simp; omega))⟩

theorem new_at2 (w : World) (g : Nat) (a : Value) (b : Int) (ao : Option Addr × Nat × Nat) (t : TypeId) (ha : a = .slice ao.1 ao.2.1 ao.2.2) (hg : g = w.heap.size) : ∀ (j : Nat) (u : Value), [a, .int .i64 b][j]? = some u → (w.alloc (.cells #[a, .int .i64 b] t)).cell? ((⟨g, 0, none⟩ : Addr).add j) = some u := by
  subst hg
  exact vt_cells w a b t ao.1 ao.2.1 ao.2.2 ha

def RefTr (W H : Nat) (s : ByteArray) (pol : Nat) (draws : ByteArray) (spk : Int) (w : World) (vl : Value) (w' : World) : Prop :=
  ∃ (R : List (Qm.Sd × Nat)) (L : List (Value × List (Int × Int))), Qm.Res (fB W H s pol draws) (bB W H s) Qm.key R ∧ L.map (·.2) = Qm.polys (fB W H s pol draws) spk R ∧ RowP w.heap.size vl L w' ∧ Below w.heap.size w w'

set_option maxRecDepth 4000 in
set_option maxHeartbeats 2000000 in
theorem refTrace_yes (W H : Nat) (s : ByteArray) (pol : Nat) (draws : ByteArray) (spk : Int) (w : World) (hm : mayB W H s.data.toList pol spk = true) (hw1 : 1 ≤ W) (hw2 : W ≤ 32) (hh2 : H ≤ 32) (hl : s.size = W * H) (hp : pol ≤ 3) (s0 : 0 ≤ spk) (s1 : spk ≤ 1024) :
    Calls Try.prog 39 #[.agg #[.int .i64 W, .int .i64 H, .string s], .agg #[.int .i64 pol, .string draws, .int .i64 spk]] w fun e w' => ∃ vl, e = .returned (.tuple #[vl, .int .i64 0]) ∧ RefTr W H s pol draws spk w vl w' := by
  obtain ⟨i0, hi, hz0, hz1, hz2⟩ := info_parts infoShape
  have HL := hid hl
  clear hl
  go_enter Try.func39, Try.ntmps39
  go_wp2_with fail
  refine (refCycles_yes W H s pol draws spk _ hm hw1 hw2 hh2 HL.out hp).mono ?_
  rintro e w1 ⟨vl, rfl, Lc, hR, hRow, hb1⟩
  have B1 := hid (show Below w.heap.size w w1 from Below.trans (b := _) (by go_grown) (hb1.mono (by simp; omega)))
  have z1 := hb1.size
  simp at z1
  have c2 := (bcell hb1).1 (w.heap.size + 1) 2 (by simp)
  simp at c2
  have SH := hid hRow.shown
  obtain ⟨al, cl, rfl, hrow⟩ := SH.out.row
  have RES := hid hR
  have HROW := hid hrow
  have hLn := Qm.Res.len hR (Qm.pic_of W H s.data.toList hw2 hh2) hw2 hh2
  rw [List.length_map] at hLn
  clear hR hRow hrow hb1
  obtain ⟨R, hRR⟩ : ∃ R, R = Lc.map (·.2) := ⟨_, rfl⟩
  rw [← hRR] at RES
  have RR := hid hRR
  clear hRR
  obtain ⟨n, hn⟩ : ∃ n, n = Lc.length := ⟨_, rfl⟩
  have RL := hid (show R.length = n by rw [RR.out, List.length_map, hn])
  rw [← hn] at hLn HROW SH ⊢
  clear hn
  obtain ⟨f, hf⟩ : ∃ f, f = fB W H s pol draws := ⟨_, rfl⟩
  have SM := hid (show ∀ c ∈ R, Qm.Small (Qm.ptsOf f c) ∧ c.2 ≤ 4356 ∧ 0 < c.2 ∧ Qm.Unit (Qm.ptsOf f c ++ [Qm.fstP (Qm.ptsOf f c)]) from fun c hc => by rw [hf]; exact ⟨small_pts hw2 hh2 (RES.out.1 c hc).1, cyc_le hw2 hh2 (RES.out.1 c hc).1, (RES.out.1 c hc).1.2.1, (RES.out.1 c hc).1.unit⟩)
  rw [← hf] at SH HROW
  have TO := hid (show ∀ L vl' wr, L.map (·.2) = Qm.polys f spk (R.take n) → RowP w.heap.size vl' L wr → Below w.heap.size w wr → RefTr W H s pol draws spk w vl' wr from fun L vl' wr h1 h2 h3 => ⟨R, L, RES.out, by rw [h1, ← RL.out, List.take_length, hf], h2, h3⟩)
  clear hf
  go_wp2_with fail
  go_loopw [8, 9] (fun lv iv wr => ∃ (i : Nat) (L : List (Value × List (Int × Int))), i ≤ n ∧ iv = .int .i64 i ∧ L.length ≤ i ∧ L.map (·.2) = Qm.polys f spk (R.take i) ∧ RowP w1.heap.size lv L wr ∧ Below w1.heap.size w1 wr) (fun _ i _ => n - (intOf i).toNat)
  case atStart => exact ⟨0, [], by omega, rfl, by simp, rfl, RowP.nil _ _, Below.refl _ _⟩
  case round =>
    obtain ⟨i, L, hin, rfl, hLi, hpl, hrp, hb⟩ := hrel
    have HB := hid hb
    have RP := hid hrp
    have PL := hid hpl
    have hz := hb.size
    by_cases hlt : i < n
    · obtain ⟨gl, rfl, hgl, hc⟩ := HROW.out.resolve_left (by omega)
      have hlt' : (i : Int) < (n : Nat) := by omega
      have hi0' : (0 : Int) ≤ (i : Nat) := by omega
      have hiR : i < R.length := by rw [RL.out]; exact hlt
      obtain ⟨g, c, m0, hpt, d0, d1⟩ := SH.out.at' RR.out hc hiR
      obtain ⟨sm, hle, _, un⟩ := SM.out R[i] (List.getElem_mem hiR)
      have PN := hid (Qm.polys_next (f := f) (spk := spk) hiR)
      have tws := Qm.fsum_small sm (Qm.ptsOf f R[i]).length
      rw [← Qm.twiceOf_fsum, Qm.ptsOf_len] at tws
      have BG := hid (show Qm.bigB f spk R[i] = decide (2 * spk < Qm.absZ (Qm.twiceOf (Qm.ptsOf f R[i]))) from rfl)
      have PLN := Qm.ptsOf_len f R[i]
      obtain ⟨cy, hcy⟩ : ∃ cy, cy = R[i] := ⟨_, rfl⟩
      rw [← hcy] at m0 hpt d0 d1 sm hle PN tws BG PLN un
      obtain ⟨m, hm⟩ : ∃ m, m = cy.2 := ⟨_, rfl⟩
      rw [← hm] at m0 d0 hle tws PLN
      obtain ⟨ps, hps⟩ : ∃ ps, ps = Qm.ptsOf f cy := ⟨_, rfl⟩
      rw [← hps] at hpt d1 sm PN tws BG PLN un
      have hg : g < w1.heap.size := hpt.1
      have HPT := hid hpt
      have e0 := (hb.cell (p := ⟨gl, i * 2, none⟩) hgl).trans d0
      have e1 := (hb.cell (p := ⟨gl, i * 2 + 1, none⟩) hgl).trans d1
      have e2 := (hb.cell (p := ⟨w.heap.size + 1, 2, none⟩) (show w.heap.size + 1 < _ by omega)).trans c2
      have PG := hid (fun W' (h : Below w1.heap.size w1 W') => polygon_any g m c ps PLN.symm m0 sm hle un W' (HPT.out.on h hg))
      have cpos := Qm.cornL_pos (c := ps) (by omega)
      obtain ⟨tw, htw⟩ : ∃ tw, tw = Qm.twiceOf ps := ⟨_, rfl⟩
      rw [← htw] at e1 BG tws
      obtain ⟨bg, hbg⟩ : ∃ bg, bg = Qm.bigB f spk cy := ⟨_, rfl⟩
      rw [← hbg] at PN BG
      obtain ⟨cl', hcl'⟩ : ∃ q, q = Qm.cornL ps := ⟨_, rfl⟩
      rw [← hcl'] at PG PN cpos
      have hgl' : gl < wr.heap.size := by omega
      clear hb hrp hpl hpt hc d0 d1 hcy hm hps htw hbg hcl' sm un
      by_cases hneg : tw < 0
      all_goals (
        have AZ := hid (show Qm.absZ tw = if tw < 0 then -tw else tw from rfl)
        first | rw [if_pos hneg] at AZ | rw [if_neg hneg] at AZ
        rw [AZ.out] at BG
        cases bg
        · have q1 := of_decide_eq_false BG.out.symm
          go_wp2
          go_roundw
          case rel => exact ⟨i + 1, L, by omega, by go_num, by omega, by rw [PN.out]; exact PL.out, RP.out, HB.out⟩
          case measure => simp [intOf]; omega
        · have q1 := of_decide_eq_true BG.out.symm
          go_wp2_with fail
          refine (PG.out _ HB.out).mono ?_
          rintro e w3 ⟨v3, rfl, o3, b3⟩
          obtain ⟨g3, cap3, rfl, hg3, hp3, -⟩ := own_at o3 cpos
          have O3 := hid o3
          have HB3 := hid b3
          have z3 := b3.size
          clear o3 b3 hp3 e0 e1 e2
          obtain ⟨nc, hnc⟩ : ∃ nc, nc = cl'.length := ⟨_, rfl⟩
          rw [← hnc]
          have HNC := hid hnc
          clear hnc
          obtain ⟨t4, ht4⟩ : ∃ t4, t4 = Qm.twiceOf cl' := ⟨_, rfl⟩
          rw [← ht4]
          have HT4 := hid ht4
          clear ht4
          have n1 : L.length + 1 ≤ maxLen := by unfold maxLen; omega
          have n2 : (L.length + 1) * 32 ≤ 140737488355328 := by omega
          have W4 := hid (show Below w3.heap.size w3 (w3.alloc (.cells #[.slice (some ⟨g3, 0, none⟩) nc cap3, .int .i64 t4] 43)) from (Below.refl _ _).alloc (Nat.le_refl _) _)
          have R4 := hid ((RP.out.on HB3.out).on W4.out)
          have n3 : w1.heap.size ≤ ((w3.alloc (.cells #[.slice (some ⟨g3, 0, none⟩) nc cap3, .int .i64 t4] 43)).alloc (.cells #[.slice (some ⟨g3, 0, none⟩) nc cap3, .int .i64 t4] 43)).heap.size := by simp; omega
          go_wp2_with (first
            | (at_builtin; refine wpList_append_own_at _ rfl _ _ 35 rfl w1.heap.size 43 i0 (.agg #[.slice none 0 0, .int .i64 0]) 2 32 Try.underlying35 hi hz0 hz1 hz2 rfl (by decide) _ _ _ rfl (R4.out.row.alloc _) ⟨_, 0, none⟩ 1 1 [.slice (some ⟨g3, 0, none⟩) nc cap3, .int .i64 t4] rfl rfl (new_at2 _ _ _ _ (some ⟨g3, 0, none⟩, nc, cap3) _ rfl (by simp)) (vt_one _ _ _ _) n1 n2 n3 ?_))
          intro vl' w5 o5 g5 _ e5
          have RP5 := hid (RP.out.snoc (v := .slice (some ⟨g3, 0, none⟩) nc cap3) (l := cl') (vl' := vl') (by omega) HB3.out (by rw [HNC.out] at *; exact O3.out) cpos W4.out (by rw [← HT4.out]; exact o5) g5 (by simpa using e5))
          have B5 := hid (show Below w1.heap.size w1 w5 from (((HB.out.trans (HB3.out.mono (by omega))).alloc (by omega) _).alloc (by simp; omega) _).grown g5 n3 (fun q hq => (R4.out.row.lt q hq).1))
          clear o5 g5 e5
          go_wp2
          go_roundw
          case rel => exact ⟨i + 1, L ++ [(.slice (some ⟨g3, 0, none⟩) nc cap3, cl')], by omega, by go_num, by simp; omega, by rw [PN.out, List.map_append, PL.out]; rfl, RP5.out, B5.out⟩
          case measure => simp [intOf]; omega)
    · have ei : i = n := by omega
      subst ei
      have hlt' : ¬ (i : Int) < (i : Nat) := by omega
      go_wp2
      go_ret2
      exact ⟨_, rfl, TO.out L _ _ PL.out (RP.out.mono B1.out.size) (B1.out.trans (HB.out.mono B1.out.size))⟩
end Go.Proofs.Ytgapfjjdccohkaa

/- outlinekeep: Moved. -/
namespace Go.Proofs.Ytgapfjjdccohkaa
open Go.RowKit
attribute [local go_sem ↓] Go.wp_at_zero Go.wp_at_succ

/-- A bitmap and options in boxes. -/
def BO (B C W H : Nat) (s : ByteArray) (pol : Nat) (wr : World) : Prop :=
  wr.cell? ⟨B, 0, none⟩ = some (.int .i64 W) ∧ wr.cell? ⟨B, 1, none⟩ = some (.int .i64 H) ∧ wr.cell? ⟨B, 2, none⟩ = some (.string s) ∧ wr.cell? ⟨C, 0, none⟩ = some (.int .i64 pol) ∧ wr.cell? ⟨C, 1, none⟩ = some (.string ⟨#[]⟩) ∧ wr.cell? ⟨C, 2, none⟩ = some (.int .i64 0) ∧ B < wr.heap.size ∧ C < wr.heap.size
theorem BO.on {B C W H : Nat} {s : ByteArray} {pol : Nat} {w w' : World} (h : BO B C W H s pol w) (hb : Below w.heap.size w w') : BO B C W H s pol w' := by
  obtain ⟨h1, h2, h3, h4, h5, h6, h7, h8⟩ := h
  exact ⟨(hb.cell (p := ⟨B, 0, none⟩) h7).trans h1, (hb.cell (p := ⟨B, 1, none⟩) h7).trans h2, (hb.cell (p := ⟨B, 2, none⟩) h7).trans h3, (hb.cell (p := ⟨C, 0, none⟩) h8).trans h4, (hb.cell (p := ⟨C, 1, none⟩) h8).trans h5, (hb.cell (p := ⟨C, 2, none⟩) h8).trans h6, Nat.lt_of_lt_of_le h7 hb.size, Nat.lt_of_lt_of_le h8 hb.size⟩
theorem ShownP.at2 {al : Option Addr} {cl n : Nat} {L : List (Value × List (Int × Int))} {X : World} (h : ShownP (.slice al n cl) L X) {gl : Nat} (hc : ∀ j u, (shpP L)[j]? = some u → X.cell? ⟨gl, j, none⟩ = some u) {i : Nat} (hi : i < L.length) :
    ∃ g c, L[i].1 = .slice (some ⟨g, 0, none⟩) L[i].2.length c ∧ 0 < L[i].2.length ∧ PtsAt g L[i].2 X ∧ X.cell? ⟨gl, i * 2, none⟩ = some (.slice (some ⟨g, 0, none⟩) L[i].2.length c) ∧ X.cell? ⟨gl, i * 2 + 1, none⟩ = some (.int .i64 (Qm.twiceOf L[i].2)) := by
  obtain ⟨g, c, e, h0, hp⟩ := h.pts L[i] (List.getElem_mem hi)
  have s := shpP_at L i hi
  have s1 := hc _ _ s.1
  have s2 := hc _ _ s.2
  rw [e] at s1
  exact ⟨g, c, e, h0, hp, s1, s2⟩
theorem two_cells2 (w : World) (g : Nat) (a b : Int) (t : TypeId) (hg : g = w.heap.size) : ∀ (j : Nat) (u : Value), [Value.int .i64 a, .int .i64 b][j]? = some u → (w.alloc (.cells #[.int .i64 a, .int .i64 b] t)).cell? ((⟨g, 0, none⟩ : Addr).add j) = some u := by
  subst hg
  exact two_cells w a b t
theorem polys_mv {W H W' H' : Nat} {s s' : ByteArray} {pol : Nat} {dx dy : Int} (hm : Qm.Mvd dx dy (Pm.blackB W H s.data.toList) (Pm.blackB W' H' s'.data.toList)) (hp : pol ≤ 2) (hw : W ≤ 32) (hh : H ≤ 32) (hw' : W' ≤ 32) (hh' : H' ≤ 32) {R R' : List (Qm.Sd × Nat)} (hR : Qm.Res (fB W H s pol ⟨#[]⟩) (bB W H s) Qm.key R) (hR' : Qm.Res (fB W' H' s' pol ⟨#[]⟩) (bB W' H' s') Qm.key R') :
    Qm.polys (fB W' H' s' pol ⟨#[]⟩) 0 R' = (Qm.polys (fB W H s pol ⟨#[]⟩) 0 R).map (List.map (Qm.mvP dx dy)) := by
  have hj := Qm.jn_mv hm hp [] []
  obtain rfl := hR'.unique (hR.mv hm hj)
  rw [Qm.polys_zero hR (Qm.pic_of W H s.data.toList hw hh), Qm.polys_zero hR' (Qm.pic_of W' H' s'.data.toList hw' hh'), List.map_map, List.map_map]
  refine List.map_congr_left fun c hc => ?_
  have cy := (hR.1 c hc).1
  have h0 : 0 < (Qm.ptsOf (fB W H s pol ⟨#[]⟩) c).length := by rw [Qm.ptsOf_len]; exact cy.2.1
  simp only [Function.comp_apply]
  rw [Qm.ptsOf_mv hm hj, Qm.cornL_mv _ h0 (Qm.cornN_lt h0 cy.unit)]

set_option maxRecDepth 4000 in
set_option maxHeartbeats 4000000 in
theorem movedLaw_any (ao : Option Addr) (len cap : Nat) (a h p px py : Int) (w : World) (hraw : RawIs ao len w) (hlen : len ≤ 140737488355328) (a1 : -9223372036854775808 ≤ a) (a2 : a ≤ 9223372036854775807) (h1 : -9223372036854775808 ≤ h) (h2 : h ≤ 9223372036854775807) (p1 : -9223372036854775808 ≤ p) (p2 : p ≤ 9223372036854775807) (x1 : -9223372036854775808 ≤ px) (x2 : px ≤ 9223372036854775807) (y1 : -9223372036854775808 ≤ py) (y2 : py ≤ 9223372036854775807) :
    Calls Try.prog 9 #[.slice ao len cap, .int .i64 a, .int .i64 h, .int .i64 p, .int .i64 px, .int .i64 py] w fun e w' => e = .returned (.bool true) ∧ Below w.heap.size w w' := by
  obtain ⟨i0, hi, hz0, hz1, hz2⟩ := info_parts infoShape
  obtain ⟨ip, hip, hp0, hp1, hp2⟩ := info_parts infoPoint
  have RW := hid hraw
  clear hraw
  go_enter Try.func9, Try.ntmps9
  go_wp2_with fail
  refine (traces_any _).mono ?_
  rintro e w1 ⟨rfl, hb⟩
  have B1 := hid (show Below w.heap.size w w1 from hb)
  clear hb
  go_wp2_with fail
  refine (built_most 16 (by omega) (by omega) ao len cap a h _ (RW.out.on B1.out) hlen a1 a2 h1 h2).mono ?_
  rintro e w2 ⟨⟨W, H, l, rfl, W1, W2', H1, H2', hl, hall⟩, hb⟩
  have W2 : W ≤ 32 := by omega
  have H2 : H ≤ 32 := by omega
  have MAY := hid (fun (pol : Nat) (hp : pol ≤ 3) => show mayB W H (⟨l.toArray⟩ : ByteArray).data.toList pol 0 = true from may_of (good_of W1 W2 H1 H2 hl hall) (by omega) (by omega) (by omega) (by omega))
  have HL := hid (show (⟨l.toArray⟩ : ByteArray).size = W * H from hl)
  have B2 := hid (show Below w.heap.size w w2 from B1.out.trans (hb.mono B1.out.size))
  clear hall hl hb RW
  obtain ⟨s, hs⟩ : ∃ s : ByteArray, s = ⟨l.toArray⟩ := ⟨_, rfl⟩
  rw [← hs] at MAY HL ⊢
  clear hs
  go_wp2_with fail
  refine (pick_any p 3 p1 p2 (by omega) (by omega) _).mono ?_
  rintro e w2' ⟨⟨pol, rfl, hpol⟩, rfl⟩
  go_wp2_with fail
  refine (pick_any px 17 x1 x2 (by omega) (by omega) _).mono ?_
  rintro e w2' ⟨⟨dx, rfl, hdx⟩, rfl⟩
  go_wp2_with fail
  refine (pick_any py 17 y1 y2 (by omega) (by omega) _).mono ?_
  rintro e w2' ⟨⟨dy, rfl, hdy⟩, rfl⟩
  have BX := hid (show BO w2.heap.size (w2.heap.size + 1) W H s pol ((w2.alloc (.cells #[.int .i64 W, .int .i64 H, .string s] 23)).alloc (.cells #[.int .i64 pol, .string ⟨#[]⟩, .int .i64 0] 25)) from ⟨by simp, by simp, by simp, by simp, by simp, by simp, by simp; omega, by simp⟩)
  have B3 := hid (show Below w.heap.size w ((w2.alloc (.cells #[.int .i64 W, .int .i64 H, .string s] 23)).alloc (.cells #[.int .i64 pol, .string ⟨#[]⟩, .int .i64 0] 25)) from (B2.out.alloc B2.out.size _).alloc (by have := B2.out.size; simp; omega) _)
  go_wp2_with fail
  refine (trace_yes W H s pol ⟨#[]⟩ 0 _ (MAY.out pol (by omega)) W2 H2 HL.out (by omega) (by omega) (by omega)).mono ?_
  rintro e w5 ⟨vm, rfl, R, Lm, hR5, hLm, hRow5, hRn, hb5⟩
  have B5 := hid (B3.out.trans (hb5.mono B3.out.size))
  have BX5 := hid (BX.out.on hb5)
  have RP5 := hid hRow5
  have PZ := hid hLm
  have RES := hid hR5
  clear hR5 hLm hRow5 hb5 BX
  obtain ⟨x0, x1, x2, x3, x4, x5, x6, x7⟩ := BX5.out
  obtain ⟨V, hV⟩ : ∃ V, V = W + dx := ⟨_, rfl⟩
  obtain ⟨U, hU⟩ : ∃ U, U = H + dy := ⟨_, rfl⟩
  have V2 : V ≤ 32 := by omega
  have U2 : U ≤ 32 := by omega
  have V1 : 1 ≤ V := by omega
  have U1 : 1 ≤ U := by omega
  have MVC := hid (show ∀ W', Calls Try.prog 30 #[.agg #[.int .i64 W, .int .i64 H, .string s], .int .i64 dx, .int .i64 dy] W' fun e w' => (∃ t : ByteArray, e = .returned (.agg #[.int .i64 V, .int .i64 U, .string t]) ∧ t.size = V * U ∧ t.data.toList.all Pm.okPix = true ∧ Qm.Mvd dx dy (Pm.blackB W H s.data.toList) (Pm.blackB V U t.data.toList)) ∧ Below W'.heap.size W' w' from fun W' => by
    rw [hV, hU]
    exact (moved_any W H s dx dy W' W1 (by omega) H1 (by omega) HL.out (by omega) (by omega)).mono fun e w' ⟨⟨l, he, h1, h2, h3⟩, hb⟩ => ⟨⟨⟨l.toArray⟩, he, h1, by simpa using h2, h3⟩, hb⟩)
  have MAY2 := hid (fun (t : ByteArray) (h1 : t.size = V * U) (h2 : t.data.toList.all Pm.okPix = true) => show mayB V U t.data.toList pol 0 = true from may_of (good_of V1 V2 U1 U2 (by rw [← h1]; simp) h2) (by omega) (by omega) (by omega) (by omega))
  have BXD := hid (show BO w2.heap.size (w2.heap.size + 1) W H s pol w5.drew from BX5.out)
  have B5D := hid (show Below w5.heap.size w5 w5.drew from ⟨rfl, rfl, rfl, Nat.le_refl _, fun _ _ => rfl⟩)
  clear hV hU
  go_wp2_with fail
  go_region_held3 (fun w' => w'.cell? ⟨w2.heap.size, 0, none⟩ = some (.int .i64 W) ∧ w'.cell? ⟨w2.heap.size, 1, none⟩ = some (.int .i64 H) ∧ w'.cell? ⟨w2.heap.size, 2, none⟩ = some (.string s) ∧ w'.cell? ⟨w2.heap.size + 1, 0, none⟩ = some (.int .i64 pol) ∧ w'.cell? ⟨w2.heap.size + 1, 1, none⟩ = some (.string ⟨#[]⟩) ∧ w'.cell? ⟨w2.heap.size + 1, 2, none⟩ = some (.int .i64 0) ∧ w2.heap.size < w'.heap.size ∧ w2.heap.size + 1 < w'.heap.size)
    (first | exact BXD.out | exact (by assumption : BO w2.heap.size (w2.heap.size + 1) W H s pol _))
    (first | (go_at_call 30; refine (MVC.out _).mono ?_; rintro e w6 ⟨⟨t, rfl, ht1, ht2, ht3⟩, hb6⟩; have B6 := hid (show Below w5.heap.size w5 w6 from B5D.out.trans hb6); have BX6 : BO w2.heap.size (w2.heap.size + 1) W H s pol w6 := BXD.out.on hb6; have HT1 := hid ht1; have HT2 := hid ht2; have HT3 := hid ht3; clear hb6 ht1 ht2 ht3) | (go_at_call 25; refine (trace_yes V U t pol ⟨#[]⟩ 0 _ (MAY2.out t HT1.out HT2.out) V2 U2 HT1.out (by omega) (by omega) (by omega)).mono ?_; rintro e w7 ⟨vn, rfl, R7, Ln, hR7, hLn, hRow7, -, hb7⟩; have B7 := hid (show Below w5.heap.size w5 w7 from B6.out.trans (hb7.mono B6.out.size)); have RES7 := hid hR7; have PN := hid hLn; have RP7 := hid hRow7; have BX7 : BO w2.heap.size (w2.heap.size + 1) W H s pol w7 := BX6.on hb7; clear hb7 hR7 hLn hRow7))
  have PMV := hid (show Ln.map (·.2) = (Lm.map (·.2)).map (List.map (Qm.mvP dx dy)) by rw [PN.out, PZ.out]; exact polys_mv HT3.out (by omega) W2 H2 V2 U2 RES.out RES7.out)
  have RP7m := hid (RP5.out.on B7.out)
  have B70 := hid (show Below w.heap.size w w7 from B5.out.trans (B7.out.mono B5.out.size))
  have LMP := hid (show ∀ p ∈ Lm, 0 < p.2.length ∧ p.2.length ≤ 4356 ∧ Qm.Small p.2 from fun p hp => by
    have : p.2 ∈ Qm.polys (fB W H s pol ⟨#[]⟩) 0 R := by rw [← PZ.out]; exact List.mem_map_of_mem hp
    unfold Qm.polys at this
    obtain ⟨c, hc, e⟩ := List.mem_map.1 this
    have hcy := (RES.out.1 c (List.mem_filter.1 hc).1).1
    have h1 := Qm.cornL_le (Qm.ptsOf (fB W H s pol ⟨#[]⟩) c)
    have h3 := cyc_le W2 H2 hcy
    rw [Qm.ptsOf_len] at h1
    rw [← e]; exact ⟨Qm.cornL_pos (by rw [Qm.ptsOf_len]; exact hcy.2.1), by omega, Qm.cornL_small (small_pts W2 H2 hcy)⟩)
  have LMN := hid (show Lm.length ≤ 1200 by
    have h1 := congrArg List.length PZ.out
    unfold Qm.polys at h1
    simp only [List.length_map] at h1
    have := List.length_filter_le (Qm.bigB (fB W H s pol ⟨#[]⟩) 0) R
    omega)
  have LNN := hid (show Ln.length = Lm.length by have := congrArg List.length PMV.out; simpa using this)
  have LNP := hid (show ∀ p ∈ Ln, 0 < p.2.length ∧ p.2.length ≤ 4356 from fun p hp => by
    have : p.2 ∈ (Lm.map (·.2)).map (List.map (Qm.mvP dx dy)) := by rw [← PMV.out]; exact List.mem_map_of_mem hp
    obtain ⟨q, hq, e⟩ := List.mem_map.1 this
    obtain ⟨r, hr, rfl⟩ := List.mem_map.1 hq
    have := LMP.out r hr
    rw [← e, List.length_map]; exact ⟨this.1, this.2.1⟩)
  have SHM := hid (RP7m.out.shown fun p hp => (LMP.out p hp).1)
  have SHN := hid (RP7.out.shown fun p hp => (LNP.out p hp).1)
  obtain ⟨am, cm, hvm, hrm⟩ := SHM.out.row
  subst hvm
  obtain ⟨n, hn⟩ : ∃ n, n = Lm.length := ⟨_, rfl⟩
  have nb : n ≤ 1200 := by rw [hn]; exact LMN.out
  rw [← hn] at hrm SHM ⊢
  have HN := hid hn
  have HRM := hid hrm
  clear hn hrm x0 x1 x2 x3 x4 x5 x6 x7 BX6 BX7
  go_wp2_with fail
  go_loopw [22, 23] (fun lv iv wr => ∃ (i : Nat) (L : List (Value × List (Int × Int))), i ≤ n ∧ iv = .int .i64 i ∧ L.length = i ∧ Hid (L.map (·.2) = ((Lm.map (·.2)).take i).map (List.map (Qm.mvP dx dy))) ∧ Hid (RowP w7.heap.size lv L wr) ∧ Hid (Below w7.heap.size w7 wr)) (fun _ i _ => n - (intOf i).toNat)
  case atStart => exact ⟨0, [], by omega, rfl, rfl, rfl, RowP.nil _ _, Below.refl _ _⟩
  case round =>
    obtain ⟨i, L, hin, rfl, hLi, hPL, hRP, hB⟩ := hrel
    obtain ⟨wo, rfl⟩ : ∃ wo, wo = wr := ⟨_, rfl⟩
    have hz := hB.out.size
    by_cases hlt : i < n
    · obtain ⟨gm, rfl, hgm, hcm⟩ := HRM.out.resolve_left (by omega)
      have hiM : i < Lm.length := by rw [← HN.out]; exact hlt
      obtain ⟨g, c, v2, m2, p2', e0, e1⟩ := SHM.out.at2 hcm hiM
      obtain ⟨_, m3, sm⟩ := LMP.out Lm[i] (List.getElem_mem hiM)
      have TK := hid (show ((Lm.map (·.2)).take (i + 1)).map (List.map (Qm.mvP dx dy)) = ((Lm.map (·.2)).take i).map (List.map (Qm.mvP dx dy)) ++ [Lm[i].2.map (Qm.mvP dx dy)] by
        rw [List.take_add_one, List.getElem?_eq_getElem (by simpa using hiM), List.map_append]; simp)
      obtain ⟨ps, hps⟩ : ∃ ps, ps = Lm[i].2 := ⟨_, rfl⟩
      rw [← hps] at m2 p2' e0 e1 m3 sm TK
      obtain ⟨m, hm⟩ : ∃ m, m = ps.length := ⟨_, rfl⟩
      rw [← hm] at m2 e0 m3
      have HM := hid hm
      have TWM := hid (Qm.twice_mv (dx := dx) (dy := dy) ps)
      obtain ⟨tw, htw⟩ : ∃ tw, tw = Qm.twiceOf ps := ⟨_, rfl⟩
      rw [← htw] at e1 TWM
      have PT := hid p2'
      have hg := p2'.1
      have SM := hid sm
      have i1 : (0 : Int) ≤ (i : Nat) := by omega
      have i2 : ((i : Nat) : Int) < (n : Nat) := by omega
      have f0 := (hB.out.cell (p := ⟨gm, i * 2, none⟩) hgm).trans e0
      have f1 := (hB.out.cell (p := ⟨gm, i * 2 + 1, none⟩) hgm).trans e1
      have hgr : gm < wo.heap.size := by omega
      have S1 := hid (Box2.new wo (.slice none 0 0) (.int .i64 tw) 43)
      have RD := hid (show ∀ wx, Below wo.heap.size wo wx → wx.cell? ⟨gm, i * 2, none⟩ = some (.slice (some ⟨g, 0, none⟩) m c) ∧ PtsAt g ps wx from fun wx hx => ⟨(hx.cell (p := ⟨gm, i * 2, none⟩) hgr).trans f0, (PT.out.on hB.out hg).on hx (by omega)⟩)
      clear p2' e0 e1 v2 hcm hps hm htw sm
      go_wp2_with fail
      clear f0 f1
      go_loopw [25] (fun kv wx => ∃ (k : Nat) (v : Value), k ≤ m ∧ kv = .int .i64 k ∧ Hid (Box2 wo.heap.size v (.int .i64 tw) wx) ∧ Hid (wx.ownsRow (wo.heap.size + 1) 47 2 v k (Qm.ptsV ((ps.map (Qm.mvP dx dy)).take k))) ∧ Hid (Below wo.heap.size wo wx)) (fun i _ => m - (intOf i).toNat)
      case atStart => exact ⟨0, _, by omega, rfl, S1, World.ownsRow_nil _ _ _ _, (Below.refl _ _).alloc (Nat.le_refl _) _⟩
      case round =>
        clear S1
        obtain ⟨k, v, hkm, rfl, hS, hO, hX⟩ := hrel
        obtain ⟨s0, s1, s2, s3, s4⟩ := hS.out
        obtain ⟨ao', capo, hv, hcapo⟩ := own_cap hO.out
        subst hv
        have hzx := hX.out.size
        obtain ⟨r0, rp⟩ := RD.out _ hX.out
        by_cases hk : k < m
        · obtain ⟨q0, q1⟩ := rp.2 k (by rw [← HM.out]; exact hk)
          have sp := SM.out.at k
          have NX := hid (show (ps.map (Qm.mvP dx dy)).take (k + 1) = (ps.map (Qm.mvP dx dy)).take k ++ [Qm.mvP dx dy (ps.getD k (0, 0))] by
            have hk' : k < ps.length := by rw [← HM.out]; exact hk
            rw [List.take_add_one, List.getElem?_eq_getElem (by simpa using hk')]
            simp [List.getD_eq_getElem?_getD, hk'])
          obtain ⟨⟨pa, pb⟩, hpp⟩ : ∃ p, p = ps.getD k (0, 0) := ⟨_, rfl⟩
          rw [← hpp] at q0 q1 sp NX
          dsimp only at q0 q1 sp
          have NX2 := hid (show Qm.mvP dx dy (pa, pb) = (pa + (dx : Int), pb + (dy : Int)) from rfl)
          have k1 : (0 : Int) ≤ (k : Nat) := by omega
          have k2 : ((k : Nat) : Int) < (m : Nat) := by omega
          have m1 : k + 1 ≤ maxLen := by unfold maxLen; omega
          have m2' : (k + 1) * 16 ≤ 140737488355328 := by omega
          have gx : gm < wr.heap.size := by omega
          have ggx : g < wr.heap.size := by omega
          have ggx2 : g < wr.heap.size + 1 := by omega
          have W8 := hid (show Below wr.heap.size wr (wr.alloc (.cells #[.int .i64 pa, .int .i64 pb] 47)) from (Below.refl _ _).alloc (Nat.le_refl _) _)
          have O8 := hid (hO.out.alloc (.cells #[.int .i64 pa, .int .i64 pb] 47))
          have S8 := hid (hS.out.on W8.out s0)
          have n3 : wo.heap.size + 1 ≤ ((wr.alloc (.cells #[.int .i64 pa, .int .i64 pb] 47)).alloc (.cells #[.int .i64 (pa + (dx : Int)), .int .i64 (pb + (dy : Int))] 47)).heap.size := by simp; omega
          clear hpp
          go_wp2_with (first
            | (at_builtin; refine wpList_append_own_at _ rfl _ _ 41 rfl (wo.heap.size + 1) 47 ip (.agg #[.int .i64 0, .int .i64 0]) 2 16 Try.underlying41 hip hp0 hp1 hp2 rfl (by decide) _ _ _ rfl (O8.out.alloc _) ⟨_, 0, none⟩ 1 1 [.int .i64 (pa + (dx : Int)), .int .i64 (pb + (dy : Int))] rfl rfl (two_cells2 _ _ _ _ _ (by simp)) (two_one _ _) m1 m2' n3 ?_))
          intro v9 w9 o9 g9 _ _
          have o9' : w9.ownsRow (wo.heap.size + 1) 47 2 v9 (k + 1) (Qm.ptsV ((ps.map (Qm.mvP dx dy)).take (k + 1))) := by rw [NX.out, Qm.ptsV_snoc, NX2.out]; exact o9
          obtain ⟨h9, cap9, rfl, -⟩ := own_src o9' (by omega)
          have S9 := hid (show Box2 wo.heap.size (.slice ao' k capo) (.int .i64 tw) w9 from (S8.out.on ((Below.refl _ _).alloc (Nat.le_refl _) (.cells #[.int .i64 (pa + (dx : Int)), .int .i64 (pb + (dy : Int))] 47)) (by simp; omega)).gb g9 (fun e => by have := (hO.out.lt _ e).1; omega))
          have B9 := hid (show Below wo.heap.size wo w9 from ((hX.out.alloc hzx _).alloc (by simp; omega) _).grown g9 (by simp; omega) (fun q hq => by have := (hO.out.lt q hq).1; omega))
          have O10 := hid (own_keep o9' (g := wo.heap.size) (by omega) (set_grown (Below.refl _ _) ⟨wo.heap.size, 0, none⟩ (v := .slice (some ⟨h9, 0, none⟩) (k + 1) cap9)))
          have S10 := hid (S9.out.set0 (.slice (some ⟨h9, 0, none⟩) (k + 1) cap9))
          have B10 := hid (B9.out.setCell (p := ⟨wo.heap.size, 0, none⟩) (show wo.heap.size ≤ wo.heap.size from Nat.le_refl _) (.slice (some ⟨h9, 0, none⟩) (k + 1) cap9))
          obtain ⟨t0, t1, t2, t3, t4⟩ := S9.out
          clear o9 g9 o9' s0 s1 s2 s3 s4 r0 q0 q1
          go_wp2
          go_roundw
          case rel => exact ⟨k + 1, _, by omega, by go_num, S10, O10, B10⟩
          case measure => simp [intOf]; omega
        · have ek : k = m := by omega
          subst ek
          have o2 : wr.ownsRow (wo.heap.size + 1) 47 2 (.slice ao' k capo) (ps.map (Qm.mvP dx dy)).length (Qm.ptsV (ps.map (Qm.mvP dx dy))) := by
            have := hO.out
            rw [HM.out] at this ⊢
            rw [List.length_map]
            rwa [List.take_of_length_le (by simp)] at this
          have O2 := hid o2
          have k2 : ¬ ((k : Nat) : Int) < (k : Nat) := by omega
          have n1 : L.length + 1 ≤ maxLen := by unfold maxLen; omega
          have n2 : (L.length + 1) * 32 ≤ 140737488355328 := by omega
          have gx : gm < wr.heap.size := by omega
          have RR := hid (hRP.out.on hX.out)
          have n3 : w7.heap.size ≤ (wr.alloc (.cells #[.slice ao' k capo, .int .i64 tw] 43)).heap.size := by simp; omega
          have HLI := hid hLi
          clear o2 hLi
          go_wp2_with (first
            | (at_builtin; refine wpList_append_own_at _ rfl _ _ 35 rfl w7.heap.size 43 i0 (.agg #[.slice none 0 0, .int .i64 0]) 2 32 Try.underlying35 hi hz0 hz1 hz2 rfl (by decide) _ _ _ rfl (RR.out.row.alloc _) ⟨_, 0, none⟩ 1 1 [.slice ao' k capo, .int .i64 tw] rfl rfl (vt_cells _ _ _ _ _ _ _ rfl) (vt_one _ _ _ _) n1 n2 n3 ?_))
          intro vl' w9 o9 g9 _ e9
          have RP9 := hid (hRP.out.snoc (v := .slice ao' k capo) (l := ps.map (Qm.mvP dx dy)) (vl' := vl') (by omega) hX.out (O2.out.mono (by omega)) (by rw [List.length_map, ← HM.out]; exact m2) (Below.refl _ _) (by rw [TWM.out]; exact o9) g9 (by simpa using e9))
          have B9 := hid (show Below w7.heap.size w7 w9 from ((hB.out.trans (hX.out.mono hz)).alloc (by omega) _).grown g9 n3 (fun q hq => (RR.out.row.lt q hq).1))
          have PLN := hid (show (L ++ [(Value.slice ao' k capo, ps.map (Qm.mvP dx dy))]).map (·.2) = ((Lm.map (·.2)).take (i + 1)).map (List.map (Qm.mvP dx dy)) by rw [TK.out, List.map_append, hPL.out]; rfl)
          clear o9 g9 e9 s0 s1 s2 s3 s4 r0
          go_wp2
          go_roundw
          case rel => exact ⟨i + 1, _, by omega, by go_num, by have := HLI.out; simp; omega, PLN, RP9, B9⟩
          case measure => simp [intOf]; omega
    · have ei : i = n := by omega
      subst ei
      have hlt' : ¬ (i : Int) < (i : Nat) := by omega
      have EQ := hid (show Ln.map (·.2) = L.map (·.2) by rw [PMV.out, hPL.out, HN.out, List.take_of_length_le (by simp)])
      have SHN2 := hid (SHN.out.on hB.out)
      have LW := hid (show ∀ p ∈ L, 0 < p.2.length from fun p hp => by
        have : p.2 ∈ Ln.map (·.2) := by rw [EQ.out]; exact List.mem_map_of_mem hp
        obtain ⟨q, hq, e⟩ := List.mem_map.1 this
        rw [← e]; exact (LNP.out q hq).1)
      have SHW := hid (hRP.out.shown LW.out)
      go_wp2_with fail
      refine (sameShapes_any vn _ Ln L _ EQ.out SHN2.out SHW.out (by have := LNN.out; have := LMN.out; omega) (fun p hp => by have := (LNP.out p hp).2; omega)).mono ?_
      rintro e w8 ⟨rfl, hb8⟩
      have B8 := hid (show Below w.heap.size w w8 from (B70.out.trans (hB.out.mono B70.out.size)).trans (hb8.mono (Nat.le_trans B70.out.size hz)))
      clear hb8
      go_wp2
      go_ret
      exact ⟨rfl, B8.out⟩
end Go.Proofs.Ytgapfjjdccohkaa
