import Derived.Test.YtgapfjjdccohkaaJfitting24
import Derived.Test.YtgapfjjdccohkaaJfitting22
import Derived.Test.YtgapfjjdccohkaaJfitting11
import Derived.Maps.AppendAt
import Derived.Test.YtgapfjjdccohkaaJfitting13
import Derived.Test.YtgapfjjdccohkaaJfitting23

/- outlinelaw.same: two answers that show the same cycles. -/
namespace Go.Proofs.Ytgapfjjdccohkaa
open Go.RowKit

theorem Seen.shown {f : Qm.Sd → Qm.Sd} {gg : Nat} {vl : Value} {L : List (Value × (Qm.Sd × Nat))} {w : World} (h : Seen f gg vl L w) : Shown f vl L w := by
  refine ⟨?_, fun p hp => ?_⟩
  · obtain ⟨ao, cap, e, h1⟩ := h.row
    refine ⟨ao, cap, e, h1.imp id ?_⟩
    rintro ⟨gl, e2, _, h3, h4⟩
    exact ⟨gl, e2, h3, h4⟩
  · obtain ⟨g, cap, e, _, h2, _, h4⟩ := h.pts p hp
    exact ⟨g, cap, e, h2, h4⟩
set_option maxRecDepth 4000 in
set_option maxHeartbeats 1000000 in
theorem same_any (f : Qm.Sd → Qm.Sd) (vl vm : Value) (La Lm : List (Value × (Qm.Sd × Nat))) (w : World) (hR : La.map (·.2) = Lm.map (·.2)) (ha : Shown f vl La w) (hb : Shown f vm Lm w) (hn1 : La.length ≤ 9223372036854775807) (hm1 : ∀ p ∈ La, p.2.2 ≤ 9223372036854775807) :
    Calls Try.prog 32 #[vl, vm] w fun e w' => e = .returned (.bool true) ∧ Below w.heap.size w w' := by
  have hlen : La.length = Lm.length := by have := congrArg List.length hR; simpa using this
  obtain ⟨aa, ca, rfl, hra⟩ := ha.row
  obtain ⟨ab, cb, rfl, hrb⟩ := hb.row
  obtain ⟨n, hn⟩ : ∃ n, n = La.length := ⟨_, rfl⟩
  rw [← hlen] at hrb ⊢
  rw [← hn] at hra hrb hn1 ⊢
  have HM1 := hid hm1
  clear hm1
  have HN := hid hn
  have HLEN := hid hlen
  have HRA := hid hra
  have HRB := hid hrb
  have HA := hid ha.pts
  have HB := hid hb.pts
  have HR := hid hR
  clear hn hlen hra hrb ha hb hR
  go_enter Try.func32, Try.ntmps32
  go_wp2
  go_loopw [5] (fun iv wr => ∃ i : Nat, i ≤ n ∧ iv = .int .i64 i ∧ Below w.heap.size w wr) (fun i _ => n - (intOf i).toNat)
  case atStart => exact ⟨0, by omega, rfl, Below.refl _ _⟩
  case round =>
    obtain ⟨i, hin, rfl, hbl⟩ := hrel
    have BL := hid hbl
    clear hbl
    by_cases hlt : i < n
    · obtain ⟨ga, rfl, hga, hca⟩ := HRA.out.resolve_left (by omega)
      obtain ⟨gb, rfl, hgb, hcb⟩ := HRB.out.resolve_left (by omega)
      have hia : i < La.length := by have := HN.out; omega
      have hib : i < Lm.length := by have := HN.out; have := HLEN.out; omega
      have sa := shpV_at f La i hia
      have sb := shpV_at f Lm i hib
      have e2 : La[i].2 = Lm[i].2 := by
        have := congrArg (fun l => l[i]?) HR.out
        simpa [hia, hib] using this
      obtain ⟨pa, hpa⟩ : ∃ p, p = La[i] := ⟨_, rfl⟩
      obtain ⟨pb, hpb⟩ : ∃ p, p = Lm[i] := ⟨_, rfl⟩
      obtain ⟨g1, c1, v1, n1, t1⟩ := HA.out pa (by rw [hpa]; exact List.getElem_mem hia)
      obtain ⟨g2, c2, v2, n2, t2⟩ := HB.out pb (by rw [hpb]; exact List.getElem_mem hib)
      rw [← hpa] at sa e2
      rw [← hpb] at sb e2
      rw [← e2] at sb t2 v2 n2
      obtain ⟨m, hm⟩ : ∃ m, m = pa.2.2 := ⟨_, rfl⟩
      have mb : m ≤ 9223372036854775807 := by rw [hm]; exact HM1.out pa (by rw [hpa]; exact List.getElem_mem hia)
      obtain ⟨tw, htw⟩ : ∃ tw, tw = Qm.twiceOf (Qm.ptsOf f pa.2) := ⟨_, rfl⟩
      obtain ⟨ps, hps⟩ : ∃ ps, ps = Qm.ptsOf f pa.2 := ⟨_, rfl⟩
      have lps : ps.length = m := by rw [hps, hm, Qm.ptsOf_len]
      rw [← hps] at t1 t2
      rw [v1, ← htw] at sa
      rw [v2, ← htw] at sb
      rw [← hm] at sa sb n1
      have rd : ∀ wx : World, Below w.heap.size w wx → wx.cell? ⟨ga, i * 2, none⟩ = some (.slice (some ⟨g1, 0, none⟩) m c1) ∧ wx.cell? ⟨ga, i * 2 + 1, none⟩ = some (.int .i64 tw) ∧ wx.cell? ⟨gb, i * 2, none⟩ = some (.slice (some ⟨g2, 0, none⟩) m c2) ∧ wx.cell? ⟨gb, i * 2 + 1, none⟩ = some (.int .i64 tw) := fun wx hx =>
        ⟨(hx.cell (p := ⟨ga, i * 2, none⟩) hga).trans (hca _ _ sa.1), (hx.cell (p := ⟨ga, i * 2 + 1, none⟩) hga).trans (hca _ _ sa.2), (hx.cell (p := ⟨gb, i * 2, none⟩) hgb).trans (hcb _ _ sb.1), (hx.cell (p := ⟨gb, i * 2 + 1, none⟩) hgb).trans (hcb _ _ sb.2)⟩
      have RD := hid rd
      have T1 := hid t1
      have T2 := hid t2
      have LPS := hid lps
      have i0' : (0 : Int) ≤ (i : Nat) := by omega
      have i1' : ((i : Nat) : Int) < (n : Nat) := by omega
      clear rd t1 t2 sa sb hpa hpb hm htw hps v1 v2 hca hcb e2 lps n2
      obtain ⟨r0, r1, r2, r3⟩ := RD.out _ BL.out
      go_wp2_with fail
      go_quiet (fail)
      go_wp2
      go_loopw [6] (fun kv wr => ∃ k : Nat, k ≤ m ∧ kv = .int .i64 k ∧ Below w.heap.size w wr) (fun k _ => m - (intOf k).toNat)
      case atStart => exact ⟨0, by omega, rfl, BL.out.trans ⟨rfl, rfl, rfl, Nat.le_refl _, fun _ _ => rfl⟩⟩
      case round =>
        clear r0 r1 r2 r3 BL
        obtain ⟨k, hkm, rfl, hbl⟩ := hrel
        have BL := hid hbl
        clear hbl
        obtain ⟨r0, r1, r2, r3⟩ := RD.out _ BL.out
        by_cases hk : k < m
        · obtain ⟨x0, x1⟩ := (T1.out.on BL.out T1.out.1).2 k (by have := LPS.out; omega)
          obtain ⟨y0, y1⟩ := (T2.out.on BL.out T2.out.1).2 k (by have := LPS.out; omega)
          obtain ⟨⟨px, py⟩, hpp⟩ : ∃ p, p = ps.getD k (0, 0) := ⟨_, rfl⟩
          rw [← hpp] at x0 x1 y0 y1
          dsimp only at x0 x1 y0 y1
          have k0' : (0 : Int) ≤ (k : Nat) := by omega
          have k1' : ((k : Nat) : Int) < (m : Nat) := by omega
          clear hpp
          go_wp2_with fail
          go_quiet (fail)
          go_wp2
          go_roundw
          case rel => exact ⟨k + 1, by omega, by go_num, BL.out.trans ⟨rfl, rfl, rfl, Nat.le_refl _, fun _ _ => rfl⟩⟩
          case measure => simp [intOf]; omega
        · have hk' : ((m : Nat) : Int) ≤ (k : Nat) := by omega
          go_wp2
          go_roundw
          case rel => exact ⟨i + 1, by omega, by go_num, BL.out⟩
          case measure => simp [intOf]; omega
    · have hk' : ((n : Nat) : Int) ≤ (i : Nat) := by omega
      go_wp2
      go_ret
      exact ⟨rfl, BL.out⟩
end Go.Proofs.Ytgapfjjdccohkaa

/- outlineref: Trace. -/
namespace Go.Proofs.Ytgapfjjdccohkaa
open Go.RowKit

namespace Qm
theorem Cyc.unit {bl jn : Int → Int → Bool} {c : Sd × Nat} (h : Cyc (nx bl jn) (fun s => isS bl s = true) c.1 c.2) : Unit (ptsOf (nx bl jn) c ++ [fstP (ptsOf (nx bl jn) c)]) := by
  have h0 : 0 < c.2 := h.2.1
  have hl := ptsOf_len (nx bl jn) c
  have A : ∀ i, i ≤ c.2 → (ptsOf (nx bl jn) c ++ [fstP (ptsOf (nx bl jn) c)]).getD i (0, 0) = fromP (it (nx bl jn) i c.1) := by
    intro i hi
    rcases Nat.lt_or_ge i c.2 with h1 | h1
    · rw [getD_app_l _ _ _ _ (by omega), ptsOf_getD _ c i h1]
    · obtain rfl : i = c.2 := by omega
      rw [getD_app_r _ _ _ _ (by omega), hl, Nat.sub_self, List.getD_cons_zero]
      unfold fstP
      rw [ptsOf_getD _ c 0 h0, h.2.2.1]; rfl
  intro i hi
  rw [List.length_append, hl, List.length_singleton] at hi
  rw [A i (by omega), A (i + 1) (by omega)]
  have hs := isS_lt (it_isS (jn := jn) h.1 i)
  have e : fromP (it (nx bl jn) (i + 1) c.1) = en (it (nx bl jn) i c.1) := rfl
  rw [e]
  generalize it (nx bl jn) i c.1 = t at hs ⊢
  obtain ⟨x, y, d⟩ := t
  have hd : d = 0 ∨ d = 1 ∨ d = 2 ∨ d = 3 := by have : d < 4 := hs; omega
  rcases hd with rfl | rfl | rfl | rfl <;> simp [en, fromP, unitP] <;> omega
theorem len_totS {R : List (Sd × Nat)} (h : ∀ c ∈ R, 0 < c.2) : R.length ≤ totS R R.length := by
  unfold totS
  rw [List.take_length]
  induction R with
  | nil => simp
  | cons c R ih =>
    have := ih fun c hc => h c (List.mem_cons_of_mem _ hc)
    have := h c (List.mem_cons_self ..)
    simp only [List.length_cons, List.map_cons, List.sum_cons]
    omega
theorem Res.len {bl jn : Int → Int → Bool} {R : List (Sd × Nat)} (h : Res (nx bl jn) (fun s => isS bl s = true) key R) {W H : Nat} (hp : Pic bl W H) (hw : W ≤ 32) (hh : H ≤ 32) : R.length ≤ 2178 := by
  have a := len_totS (R := R) fun c hc => (h.1 c hc).1.2.1
  have b := totS_all (nx bl jn) R
  have c := h.count hp
  have d := bx_cS bl (W + 1) (H + 1) (by omega) (by omega)
  omega
end Qm

set_option maxHeartbeats 400000 in
theorem refTrace_no (W H : Int) (s : ByteArray) (pol : Int) (draws : ByteArray) (spk : Int) (w : World) (hm : mayB W H s.data.toList pol spk = false) :
    Calls Try.prog 39 #[.agg #[.int .i64 W, .int .i64 H, .string s], .agg #[.int .i64 pol, .string draws, .int .i64 spk]] w fun e w' => e = .returned (.tuple #[.slice none 0 0, .int .i64 4]) ∧ Below w.heap.size w w' := by
  go_enter Try.func39, Try.ntmps39
  go_wp2_with fail
  refine (refCycles_no W H s pol draws spk _ hm).mono ?_
  rintro e w1 ⟨rfl, hb⟩
  have HB := hid hb
  clear hb
  go_wp2
  go_ret2
  exact ⟨rfl, Below.trans (b := _) (by go_grown) (HB.out.mono (by simp; omega))⟩

theorem new_at2 (w : World) (g : Nat) (a : Value) (b : Int) (ao : Option Addr × Nat × Nat) (t : TypeId) (ha : a = .slice ao.1 ao.2.1 ao.2.2) (hg : g = w.heap.size) : ∀ (j : Nat) (u : Value), [a, .int .i64 b][j]? = some u → (w.alloc (.cells #[a, .int .i64 b] t)).cell? ((⟨g, 0, none⟩ : Addr).add j) = some u := by
  subst hg
  exact vt_cells w a b t ao.1 ao.2.1 ao.2.2 ha

def RefTr (W H : Nat) (s : ByteArray) (pol : Nat) (draws : ByteArray) (spk : Int) (w : World) (vl : Value) (w' : World) : Prop :=
  ∃ (R : List (Qm.Sd × Nat)) (L : List (Value × List (Int × Int))), Qm.Res (fB W H s pol draws) (bB W H s) Qm.key R ∧ L.map (·.2) = Qm.polys (fB W H s pol draws) spk R ∧ RowP w.heap.size vl L w' ∧ Below w.heap.size w w'

set_option maxRecDepth 4000 in
set_option maxHeartbeats 2000000 in
theorem refTrace_yes (W H : Nat) (s : ByteArray) (pol : Nat) (draws : ByteArray) (spk : Int) (w : World) (hm : mayB W H s.data.toList pol spk = true) (hw1 : 1 ≤ W) (hw2 : W ≤ 32) (hh2 : H ≤ 32) (hl : s.size = W * H) (hp : pol ≤ 3) (s0 : 0 ≤ spk) (s1 : spk ≤ 1024) :
    Calls Try.prog 39 #[.agg #[.int .i64 W, .int .i64 H, .string s], .agg #[.int .i64 pol, .string draws, .int .i64 spk]] w fun e w' => ∃ vl, e = .returned (.tuple #[vl, .int .i64 0]) ∧ RefTr W H s pol draws spk w vl w' := by
  obtain ⟨i0, hi, hz0, hz1, hz2⟩ := info_parts infoShape
  have HL := hid hl
  clear hl
  go_enter Try.func39, Try.ntmps39
  go_wp2_with fail
  refine (refCycles_yes W H s pol draws spk _ hm hw1 hw2 hh2 HL.out hp).mono ?_
  rintro e w1 ⟨vl, rfl, Lc, hR, hRow, hb1⟩
  have B1 := hid (show Below w.heap.size w w1 from Below.trans (b := _) (by go_grown) (hb1.mono (by simp; omega)))
  have z1 := hb1.size
  simp at z1
  have c2 := (bcell hb1).1 (w.heap.size + 1) 2 (by simp)
  simp at c2
  have SH := hid hRow.shown
  obtain ⟨al, cl, rfl, hrow⟩ := SH.out.row
  have RES := hid hR
  have HROW := hid hrow
  have hLn := Qm.Res.len hR (Qm.pic_of W H s.data.toList hw2 hh2) hw2 hh2
  rw [List.length_map] at hLn
  clear hR hRow hrow hb1
  obtain ⟨R, hRR⟩ : ∃ R, R = Lc.map (·.2) := ⟨_, rfl⟩
  rw [← hRR] at RES
  have RR := hid hRR
  clear hRR
  obtain ⟨n, hn⟩ : ∃ n, n = Lc.length := ⟨_, rfl⟩
  have RL := hid (show R.length = n by rw [RR.out, List.length_map, hn])
  rw [← hn] at hLn HROW SH ⊢
  clear hn
  obtain ⟨f, hf⟩ : ∃ f, f = fB W H s pol draws := ⟨_, rfl⟩
  have SM := hid (show ∀ c ∈ R, Qm.Small (Qm.ptsOf f c) ∧ c.2 ≤ 4356 ∧ 0 < c.2 ∧ Qm.Unit (Qm.ptsOf f c ++ [Qm.fstP (Qm.ptsOf f c)]) from fun c hc => by rw [hf]; exact ⟨small_pts hw2 hh2 (RES.out.1 c hc).1, cyc_le hw2 hh2 (RES.out.1 c hc).1, (RES.out.1 c hc).1.2.1, (RES.out.1 c hc).1.unit⟩)
  rw [← hf] at SH HROW
  have TO := hid (show ∀ L vl' wr, L.map (·.2) = Qm.polys f spk (R.take n) → RowP w.heap.size vl' L wr → Below w.heap.size w wr → RefTr W H s pol draws spk w vl' wr from fun L vl' wr h1 h2 h3 => ⟨R, L, RES.out, by rw [h1, ← RL.out, List.take_length, hf], h2, h3⟩)
  clear hf
  go_wp2_with fail
  go_loopw [8, 9] (fun lv iv wr => ∃ (i : Nat) (L : List (Value × List (Int × Int))), i ≤ n ∧ iv = .int .i64 i ∧ L.length ≤ i ∧ L.map (·.2) = Qm.polys f spk (R.take i) ∧ RowP w1.heap.size lv L wr ∧ Below w1.heap.size w1 wr) (fun _ i _ => n - (intOf i).toNat)
  case atStart => exact ⟨0, [], by omega, rfl, by simp, rfl, RowP.nil _ _, Below.refl _ _⟩
  case round =>
    obtain ⟨i, L, hin, rfl, hLi, hpl, hrp, hb⟩ := hrel
    have HB := hid hb
    have RP := hid hrp
    have PL := hid hpl
    have hz := hb.size
    by_cases hlt : i < n
    · obtain ⟨gl, rfl, hgl, hc⟩ := HROW.out.resolve_left (by omega)
      have hlt' : (i : Int) < (n : Nat) := by omega
      have hi0' : (0 : Int) ≤ (i : Nat) := by omega
      have hiR : i < R.length := by rw [RL.out]; exact hlt
      obtain ⟨g, c, m0, hpt, d0, d1⟩ := SH.out.at' RR.out hc hiR
      obtain ⟨sm, hle, _, un⟩ := SM.out R[i] (List.getElem_mem hiR)
      have PN := hid (Qm.polys_next (f := f) (spk := spk) hiR)
      have tws := Qm.fsum_small sm (Qm.ptsOf f R[i]).length
      rw [← Qm.twiceOf_fsum, Qm.ptsOf_len] at tws
      have BG := hid (show Qm.bigB f spk R[i] = decide (2 * spk < Qm.absZ (Qm.twiceOf (Qm.ptsOf f R[i]))) from rfl)
      have PLN := Qm.ptsOf_len f R[i]
      obtain ⟨cy, hcy⟩ : ∃ cy, cy = R[i] := ⟨_, rfl⟩
      rw [← hcy] at m0 hpt d0 d1 sm hle PN tws BG PLN un
      obtain ⟨m, hm⟩ : ∃ m, m = cy.2 := ⟨_, rfl⟩
      rw [← hm] at m0 d0 hle tws PLN
      obtain ⟨ps, hps⟩ : ∃ ps, ps = Qm.ptsOf f cy := ⟨_, rfl⟩
      rw [← hps] at hpt d1 sm PN tws BG PLN un
      have hg : g < w1.heap.size := hpt.1
      have HPT := hid hpt
      have e0 := (hb.cell (p := ⟨gl, i * 2, none⟩) hgl).trans d0
      have e1 := (hb.cell (p := ⟨gl, i * 2 + 1, none⟩) hgl).trans d1
      have e2 := (hb.cell (p := ⟨w.heap.size + 1, 2, none⟩) (show w.heap.size + 1 < _ by omega)).trans c2
      have PG := hid (fun W' (h : Below w1.heap.size w1 W') => polygon_any g m c ps PLN.symm m0 sm hle un W' (HPT.out.on h hg))
      have cpos := Qm.cornL_pos (c := ps) (by omega)
      obtain ⟨tw, htw⟩ : ∃ tw, tw = Qm.twiceOf ps := ⟨_, rfl⟩
      rw [← htw] at e1 BG tws
      obtain ⟨bg, hbg⟩ : ∃ bg, bg = Qm.bigB f spk cy := ⟨_, rfl⟩
      rw [← hbg] at PN BG
      obtain ⟨cl', hcl'⟩ : ∃ q, q = Qm.cornL ps := ⟨_, rfl⟩
      rw [← hcl'] at PG PN cpos
      have hgl' : gl < wr.heap.size := by omega
      clear hb hrp hpl hpt hc d0 d1 hcy hm hps htw hbg hcl' sm un
      by_cases hneg : tw < 0
      all_goals (
        have AZ := hid (show Qm.absZ tw = if tw < 0 then -tw else tw from rfl)
        first | rw [if_pos hneg] at AZ | rw [if_neg hneg] at AZ
        rw [AZ.out] at BG
        cases bg
        · have q1 := of_decide_eq_false BG.out.symm
          go_wp2
          go_roundw
          case rel => exact ⟨i + 1, L, by omega, by go_num, by omega, by rw [PN.out]; exact PL.out, RP.out, HB.out⟩
          case measure => simp [intOf]; omega
        · have q1 := of_decide_eq_true BG.out.symm
          go_wp2_with fail
          refine (PG.out _ HB.out).mono ?_
          rintro e w3 ⟨v3, rfl, o3, b3⟩
          obtain ⟨g3, cap3, rfl, hg3, hp3, -⟩ := own_at o3 cpos
          have O3 := hid o3
          have HB3 := hid b3
          have z3 := b3.size
          clear o3 b3 hp3 e0 e1 e2
          obtain ⟨nc, hnc⟩ : ∃ nc, nc = cl'.length := ⟨_, rfl⟩
          rw [← hnc]
          have HNC := hid hnc
          clear hnc
          obtain ⟨t4, ht4⟩ : ∃ t4, t4 = Qm.twiceOf cl' := ⟨_, rfl⟩
          rw [← ht4]
          have HT4 := hid ht4
          clear ht4
          have n1 : L.length + 1 ≤ maxLen := by unfold maxLen; omega
          have n2 : (L.length + 1) * 32 ≤ 140737488355328 := by omega
          have W4 := hid (show Below w3.heap.size w3 (w3.alloc (.cells #[.slice (some ⟨g3, 0, none⟩) nc cap3, .int .i64 t4] 43)) from (Below.refl _ _).alloc (Nat.le_refl _) _)
          have R4 := hid ((RP.out.on HB3.out).on W4.out)
          have n3 : w1.heap.size ≤ ((w3.alloc (.cells #[.slice (some ⟨g3, 0, none⟩) nc cap3, .int .i64 t4] 43)).alloc (.cells #[.slice (some ⟨g3, 0, none⟩) nc cap3, .int .i64 t4] 43)).heap.size := by simp; omega
          go_wp2_with (first
            | (at_builtin; refine wpList_append_own_at _ rfl _ _ 35 rfl w1.heap.size 43 i0 (.agg #[.slice none 0 0, .int .i64 0]) 2 32 Try.underlying35 hi hz0 hz1 hz2 rfl (by decide) _ _ _ rfl (R4.out.row.alloc _) ⟨_, 0, none⟩ 1 1 [.slice (some ⟨g3, 0, none⟩) nc cap3, .int .i64 t4] rfl rfl (new_at2 _ _ _ _ (some ⟨g3, 0, none⟩, nc, cap3) _ rfl (by simp)) (vt_one _ _ _ _) n1 n2 n3 ?_))
          intro vl' w5 o5 g5 _ e5
          have RP5 := hid (RP.out.snoc (v := .slice (some ⟨g3, 0, none⟩) nc cap3) (l := cl') (vl' := vl') (by omega) HB3.out (by rw [HNC.out] at *; exact O3.out) cpos W4.out (by rw [← HT4.out]; exact o5) g5 (by simpa using e5))
          have B5 := hid (show Below w1.heap.size w1 w5 from (((HB.out.trans (HB3.out.mono (by omega))).alloc (by omega) _).alloc (by simp; omega) _).grown g5 n3 (fun q hq => (R4.out.row.lt q hq).1))
          clear o5 g5 e5
          go_wp2
          go_roundw
          case rel => exact ⟨i + 1, L ++ [(.slice (some ⟨g3, 0, none⟩) nc cap3, cl')], by omega, by go_num, by simp; omega, by rw [PN.out, List.map_append, PL.out]; rfl, RP5.out, B5.out⟩
          case measure => simp [intOf]; omega)
    · have ei : i = n := by omega
      subst ei
      have hlt' : ¬ (i : Int) < (i : Nat) := by omega
      go_wp2
      go_ret2
      exact ⟨_, rfl, TO.out L _ _ PL.out (RP.out.mono B1.out.size) (B1.out.trans (HB.out.mono B1.out.size))⟩
end Go.Proofs.Ytgapfjjdccohkaa

/- outlinekeep: Fitting. -/
namespace Go.Proofs.Ytgapfjjdccohkaa
open Go.RowKit
attribute [local go_sem ↓] Go.wp_at_zero Go.wp_at_succ

/-- No two lines that follow one another could be one. -/
theorem no_skip {c : List (Int × Int)} (h0 : 0 < c.length) (hu : Qm.Unit (c ++ [Qm.fstP c])) {L : List Nat} (hL : Qm.Pth (Qm.okV (c ++ [Qm.fstP c])) 0 c.length L) (hl : L.length = (Qm.cornL c).length + 1) {k : Nat} (hk : k + 2 < L.length) :
    L.getD k 0 + 2 ≤ L.getD (k + 2) 0 ∧ L.getD (k + 2) 0 ≤ c.length ∧ Qm.kfB (Qm.sl (c ++ [Qm.fstP c]) (L.getD k 0) (L.getD (k + 2) 0)) = false := by
  have s1 := hL.step k (by omega)
  have s2 := hL.step (k + 1) (by omega)
  have a1 := s1.1
  have a2 := s2.1
  have a3 := s2.2.1
  rw [List.length_append, List.length_singleton] at a3
  refine ⟨by rw [show k + 2 = k + 1 + 1 from rfl]; omega, by rw [show k + 2 = k + 1 + 1 from rfl]; omega, ?_⟩
  cases e : Qm.kfB (Qm.sl (c ++ [Qm.fstP c]) (L.getD k 0) (L.getD (k + 2) 0)) with
  | false => rfl
  | true =>
    exfalso
    unfold Qm.kfB at e
    rw [Bool.and_eq_true, decide_eq_true_eq, Qm.sl_len (by rw [show k + 2 = k + 1 + 1 from rfl]; omega) (by rw [List.length_append, List.length_singleton, show k + 2 = k + 1 + 1 from rfl]; omega)] at e
    have ok : Qm.okV (c ++ [Qm.fstP c]) (L.getD k 0) (L.getD (k + 2) 0) := ⟨by rw [show k + 2 = k + 1 + 1 from rfl]; omega, by rw [List.length_append, List.length_singleton, show k + 2 = k + 1 + 1 from rfl]; omega, by omega, e.2⟩
    have sh := hL.skip k hk ok
    have op := (Qm.cornN_is h0 hu).2 _ sh
    have l1 : (L.eraseIdx (k + 1)).length = L.length - 1 := List.length_eraseIdx_of_lt (by omega)
    have l2 : (Qm.cornN c ++ [c.length]).length = (Qm.cornL c).length + 1 := by simp [Qm.cornL]
    rcases op with h | ⟨h, _⟩ <;> omega

/-- Two lists and the shapes number i of both. -/
def Ft (gc gm i g1 m1 c1 g2 m2 c2 : Nat) (tw : Int) (w : World) : Prop :=
  w.cell? ⟨gc, i * 2, none⟩ = some (.slice (some ⟨g1, 0, none⟩) m1 c1) ∧ w.cell? ⟨gm, i * 2, none⟩ = some (.slice (some ⟨g2, 0, none⟩) m2 c2) ∧ w.cell? ⟨gm, i * 2 + 1, none⟩ = some (.int .i64 tw) ∧ gc < w.heap.size ∧ gm < w.heap.size
theorem Ft.on {gc gm i g1 m1 c1 g2 m2 c2 : Nat} {tw : Int} {w w' : World} (h : Ft gc gm i g1 m1 c1 g2 m2 c2 tw w) (hb : Below w.heap.size w w') : Ft gc gm i g1 m1 c1 g2 m2 c2 tw w' := by
  obtain ⟨h1, h2, h3, h4, h5⟩ := h
  exact ⟨(hb.cell (p := ⟨gc, i * 2, none⟩) h4).trans h1, (hb.cell (p := ⟨gm, i * 2, none⟩) h5).trans h2, (hb.cell (p := ⟨gm, i * 2 + 1, none⟩) h5).trans h3, Nat.lt_of_lt_of_le h4 hb.size, Nat.lt_of_lt_of_le h5 hb.size⟩

set_option maxRecDepth 4000 in
set_option maxHeartbeats 4000000 in
theorem fitting_any (ao : Option Addr) (len cap : Nat) (a h p : Int) (draws : ByteArray) (w : World) (hraw : RawIs ao len w) (hlen : len ≤ 140737488355328) (a1 : -9223372036854775808 ≤ a) (a2 : a ≤ 9223372036854775807) (h1 : -9223372036854775808 ≤ h) (h2 : h ≤ 9223372036854775807) (p1 : -9223372036854775808 ≤ p) (p2 : p ≤ 9223372036854775807) :
    Calls Try.prog 7 #[.slice ao len cap, .int .i64 a, .int .i64 h, .int .i64 p, .string draws] w fun e w' => e = .returned (.bool true) ∧ Below w.heap.size w w' := by
  obtain ⟨ip, hip, hp0, hp1, hp2⟩ := info_parts infoPoint
  have RW := hid hraw
  clear hraw
  go_enter Try.func7, Try.ntmps7
  go_wp2_with fail
  refine (traces_any _).mono ?_
  rintro e w1 ⟨rfl, hb⟩
  have B1 := hid (show Below w.heap.size w w1 from hb)
  clear hb
  go_wp2_with fail
  refine (built_most 14 (by omega) (by omega) ao len cap a h _ (RW.out.on B1.out) hlen a1 a2 h1 h2).mono ?_
  rintro e w2 ⟨⟨W, H, l, rfl, W1, W2', H1, H2', hl, hall⟩, hb⟩
  have W2 : W ≤ 32 := by omega
  have H2 : H ≤ 32 := by omega
  have MAY := hid (fun (pol : Nat) (hp : pol ≤ 3) => show mayB W H (⟨l.toArray⟩ : ByteArray).data.toList pol 0 = true from may_of (good_of W1 W2 H1 H2 hl hall) (by omega) (by omega) (by omega) (by omega))
  have HL := hid (show (⟨l.toArray⟩ : ByteArray).size = W * H from hl)
  have B2 := hid (show Below w.heap.size w w2 from B1.out.trans (hb.mono B1.out.size))
  clear hall hl hb RW
  obtain ⟨s, hs⟩ : ∃ s : ByteArray, s = ⟨l.toArray⟩ := ⟨_, rfl⟩
  rw [← hs] at MAY HL ⊢
  clear hs
  go_wp2_with fail
  refine (options_any p draws p1 p2 _).mono ?_
  rintro e w3 ⟨⟨pol, rfl, hpol⟩, hb⟩
  have X0 := hid ((Box3.new w2 (.int .i64 W) (.int .i64 H) (.string s) 23).on hb)
  have Y0 := hid ((X0.out.alloc (.cells #[.int .i64 pol, .string draws, .int .i64 0] 25)))
  have O0 := hid (Box3.new w3 (.int .i64 pol) (.string draws) (.int .i64 0) 25)
  have B3 := hid (show Below w.heap.size w w3 from B2.out.trans (X0.out.2.2.1.mono B2.out.size))
  clear hb
  obtain ⟨⟨y0, y1, y2⟩, -, -, -⟩ := X0.out
  have k3 : w2.heap.size < w3.heap.size := X0.out.2.2.2
  go_wp2_with fail
  refine (cycles_yes W H s pol draws 0 _ (MAY.out pol hpol) W2 H2 HL.out hpol).mono ?_
  rintro e w4 ⟨vl, rfl, L0, hR, hRow, hb4, hLn⟩
  have RP4 := hid hRow.rowPk
  have Y4 := hid (Y0.out.on hb4)
  have O4 := hid (O0.out.on hb4)
  have B4 := hid (show Below w.heap.size w w4 from (B3.out.alloc B3.out.size _).trans (hb4.mono (by have := B3.out.size; simp; omega)))
  have RES := hid hR
  obtain ⟨R, hRR⟩ : ∃ R, R = L0.map (·.2) := ⟨_, rfl⟩
  obtain ⟨f, hf⟩ : ∃ f, f = fB W H s pol draws := ⟨_, rfl⟩
  obtain ⟨Lc, hLc⟩ : ∃ Lc, Lc = L0.map fun p => (p.1, Qm.ptsOf (fB W H s pol draws) p.2) := ⟨_, rfl⟩
  have ELC := hid (show Lc.map (·.2) = R.map (Qm.ptsOf f) by rw [hLc, hRR, hf]; simp)
  have LCN := hid (show Lc.length = R.length by rw [hLc, hRR]; simp)
  have hRn : R.length ≤ 1200 := by rw [hRR, List.length_map]; exact hLn
  rw [← hRR] at RES
  rw [← hLc] at RP4
  have HF := hid hf
  clear hR hRow hb4 y0 y1 y2 hRR hLc hLn hf
  obtain ⟨⟨y0, y1, y2⟩, -, -, -⟩ := Y4.out
  obtain ⟨⟨o0, o1, o2⟩, -, -, -⟩ := O4.out
  go_wp2_with fail
  refine (trace_yes W H s pol draws 0 _ (MAY.out pol hpol) W2 H2 HL.out hpol (by omega) (by omega)).mono ?_
  rintro e w5 ⟨vm, rfl, R5, Lm, hR5, hLm, hRow5, -, hb5⟩
  obtain rfl := RES.out.unique hR5
  have RP5 := hid hRow5
  have Q5 := hid (RP4.out.on hb5)
  have B5 := hid (B4.out.trans (hb5.mono B4.out.size))
  have PZ := hid (show Lm.map (·.2) = R.map fun c => Qm.cornL (Qm.ptsOf f c) by rw [hLm, HF.out]; exact Qm.polys_zero RES.out (Qm.pic_of W H s.data.toList W2 H2))
  have SM := hid (show ∀ c ∈ R, Qm.Small (Qm.ptsOf f c) ∧ c.2 ≤ 4356 ∧ 0 < c.2 ∧ Qm.Unit (Qm.ptsOf f c ++ [Qm.fstP (Qm.ptsOf f c)]) from fun c hc => by rw [HF.out]; exact ⟨small_pts W2 H2 (RES.out.1 c hc).1, cyc_le W2 H2 (RES.out.1 c hc).1, (RES.out.1 c hc).1.2.1, (RES.out.1 c hc).1.unit⟩)
  have LMP := hid (show ∀ p ∈ Lm, 0 < p.2.length from fun p hp => by
    have : p.2 ∈ R.map fun c => Qm.cornL (Qm.ptsOf f c) := by rw [← PZ.out]; exact List.mem_map_of_mem hp
    obtain ⟨c, hc, e⟩ := List.mem_map.1 this
    rw [← e]; exact Qm.cornL_pos (by rw [Qm.ptsOf_len]; exact (SM.out c hc).2.2.1))
  have LCP := hid (show ∀ p ∈ Lc, 0 < p.2.length from fun p hp => by
    have : p.2 ∈ R.map (Qm.ptsOf f) := by rw [← ELC.out]; exact List.mem_map_of_mem hp
    obtain ⟨c, hc, e⟩ := List.mem_map.1 this
    rw [← e, Qm.ptsOf_len]; exact (SM.out c hc).2.2.1)
  have SHM := hid (RP5.out.shown LMP.out)
  have SHC := hid (Q5.out.shown LCP.out)
  have LMN := hid (show Lm.length = R.length by have := congrArg List.length PZ.out; simpa using this)
  clear hR5 hLm hRow5 hb5 y0 y1 y2 o0 o1 o2
  obtain ⟨ac, cc, rfl, hrc⟩ := SHC.out.row
  obtain ⟨am, cm, rfl, hrm⟩ := SHM.out.row
  obtain ⟨n, hn⟩ : ∃ n, n = R.length := ⟨_, rfl⟩
  rw [LCN.out, ← hn] at hrc
  rw [LMN.out, ← hn] at hrm
  rw [LCN.out] at SHC
  rw [LMN.out] at SHM
  rw [LCN.out, LMN.out]
  rw [← hn] at hRn SHC SHM ⊢
  have HN := hid hn
  have HRC := hid hrc
  have HRM := hid hrm
  clear hn hrc hrm
  go_wp2_with fail
  go_loopw [18] (fun iv wr => ∃ i : Nat, i ≤ n ∧ iv = .int .i64 i ∧ Hid (Below w5.heap.size w5 wr)) (fun i _ => n - (intOf i).toNat)
  case atStart => exact ⟨0, by omega, rfl, Below.refl _ _⟩
  case round =>
    obtain ⟨i, hin, rfl, hB⟩ := hrel
    by_cases hlt : i < n
    · obtain ⟨gc, rfl, hgc, hcc⟩ := HRC.out.resolve_left (by omega)
      obtain ⟨gm, rfl, hgm, hcm⟩ := HRM.out.resolve_left (by omega)
      have hiR : i < R.length := by rw [← HN.out]; exact hlt
      have hiC : i < Lc.length := by rw [LCN.out]; exact hiR
      have hiM : i < Lm.length := by rw [LMN.out]; exact hiR
      obtain ⟨g1, c1, -, m01, q1, d0, d1⟩ := SHC.out.at hcc hiC
      obtain ⟨g2, c2, -, m02, q2, e0, e1⟩ := SHM.out.at hcm hiM
      have E1 : Lc[i].2 = Qm.ptsOf f R[i] := by
        have := congrArg (fun l => l[i]?) ELC.out
        simpa [hiC, hiR] using this
      have E2 : Lm[i].2 = Qm.cornL (Qm.ptsOf f R[i]) := by
        have := congrArg (fun l => l[i]?) PZ.out
        simpa [hiM, hiR] using this
      obtain ⟨sm, hle, _, un⟩ := SM.out R[i] (List.getElem_mem hiR)
      have PLN := Qm.ptsOf_len f R[i]
      rw [E1] at m01 q1 d0
      rw [E2] at m02 q2 e0 e1
      obtain ⟨ps, hps⟩ : ∃ ps, ps = Qm.ptsOf f R[i] := ⟨_, rfl⟩
      rw [← hps] at m01 q1 d0 m02 q2 e0 e1 sm un PLN
      have cle := Qm.cornL_le ps
      obtain ⟨pq, hpq⟩ : ∃ pq, pq = Qm.cornL ps := ⟨_, rfl⟩
      rw [← hpq] at m02 q2 e0 e1 cle
      obtain ⟨m1, hm1⟩ : ∃ m, m = ps.length := ⟨_, rfl⟩
      obtain ⟨m2, hm2⟩ : ∃ m, m = pq.length := ⟨_, rfl⟩
      rw [← hm1] at m01 d0 PLN cle
      rw [← hm2] at m02 e0 cle
      obtain ⟨tw, htw⟩ : ∃ tw, tw = Qm.twiceOf pq := ⟨_, rfl⟩
      have m1b : m1 ≤ 4356 := by omega
      have m2b : m2 ≤ 4356 := by omega
      have spq : Qm.Small pq := by rw [hpq]; exact Qm.cornL_small sm
      have TW := hid (fun W' (hW : Below w5.heap.size w5 W') => keepTwice_any g2 m2 c2 tw pq hm2 m02 spq (by omega) W' (q2.on hW q2.1))
      rw [← htw] at e1 TW
      have PLC := hid (fun W' (hW : Below w5.heap.size w5 W') => places_any g1 m1 c1 g2 m2 c2 ps pq hm1 m01 sm (by omega) un hm2 m02 (by omega) hpq W' (q1.on hW q1.1) (q2.on hW q2.1))
      have NS := hid (fun (L : List Nat) (hL : Qm.Pth (Qm.okV (ps ++ [Qm.fstP ps])) 0 m1 L) (hl : L.length = m2 + 1) (k : Nat) (hk : k + 2 < L.length) => no_skip (c := ps) (by omega) un (L := L) (by rw [← hm1]; exact hL) (by rw [hl, hm2, hpq]) hk)
      have F0 := hid (show ∀ W', Below w5.heap.size w5 W' → Ft gc gm i g1 m1 c1 g2 m2 c2 tw W' from fun W' hW => ⟨(hW.cell (p := ⟨gc, i * 2, none⟩) hgc).trans d0, (hW.cell (p := ⟨gm, i * 2, none⟩) hgm).trans e0, (hW.cell (p := ⟨gm, i * 2 + 1, none⟩) hgm).trans e1, Nat.lt_of_lt_of_le hgc hW.size, Nat.lt_of_lt_of_le hgm hW.size⟩)
      have NW := hid (show ∀ W', Below w5.heap.size w5 W' → ∀ j u, (Qm.ptsV ps)[j]? = some u → W'.cell? ((⟨g1, 0, none⟩ : Addr).add j) = some u from fun W' hW => by
        have := (q1.on hW q1.1).news 0 m1 (by omega)
        rw [List.drop_zero, hm1, List.take_length] at this
        simpa using this)
      have LP := hid (show (Qm.ptsV ps).length = m1 * 2 by rw [Qm.ptsV_len, hm1])
      have Q1 := hid q1
      have FS := hid (show Qm.fstP ps = ps.getD 0 (0, 0) from rfl)
      have SMP := hid sm
      have UN := hid un
      have HM1 := hid hm1
      have i1 : (0 : Int) ≤ (i : Nat) := by omega
      have i2 : ((i : Nat) : Int) < (n : Nat) := by omega
      have z1 : ((m1 : Int) == 0) = false := by simp; omega
      have z2 : ((m2 : Int) == 0) = false := by simp; omega
      have z3 : (m1 == 0) = false := by simp; omega
      have z4 : (m2 == 0) = false := by simp; omega
      have z5 : ¬ m1 = 0 := by omega
      have z6 : ¬ m2 = 0 := by omega
      have DB := hid (show Below w5.heap.size w5 wr.drew from hB.out.trans ⟨rfl, rfl, rfl, Nat.le_refl _, fun _ _ => rfl⟩)
      have S0 := hid (F0.out _ DB.out)
      obtain ⟨t0, t1, t2, t3, t4⟩ := F0.out _ hB.out
      clear hcc hcm q1 q2 d0 d1 e0 e1 E1 E2 hps hpq hm1 hm2 htw spq sm un PLN
      go_wp2_with fail
      go_region_held3 (fun w' => w'.cell? ⟨gc, i * 2, none⟩ = some (.slice (some ⟨g1, 0, none⟩) m1 c1) ∧ w'.cell? ⟨gm, i * 2, none⟩ = some (.slice (some ⟨g2, 0, none⟩) m2 c2) ∧ w'.cell? ⟨gm, i * 2 + 1, none⟩ = some (.int .i64 tw) ∧ gc < w'.heap.size ∧ gm < w'.heap.size)
        (first | exact S0.out | exact (by assumption : Ft gc gm i g1 m1 c1 g2 m2 c2 tw _))
        (first | (go_at_call 16; refine (TW.out _ DB.out).mono ?_; rintro e w6 ⟨rfl, hb6⟩; have F6 : Ft gc gm i g1 m1 c1 g2 m2 c2 tw w6 := S0.out.on hb6; have B6 := hid (show Below w5.heap.size w5 w6 from DB.out.trans (hb6.mono DB.out.size)); clear hb6))
      clear t0 t1 t2 t3 t4 S0 DB
      have DB := hid (show Below w5.heap.size w5 w6.drew from B6.out.trans ⟨rfl, rfl, rfl, Nat.le_refl _, fun _ _ => rfl⟩)
      have S0 := hid (F0.out _ DB.out)
      obtain ⟨t0, t1, t2, t3, t4⟩ := F6
      go_wp2_with fail
      go_region_held3 (fun w' => w'.cell? ⟨gc, i * 2, none⟩ = some (.slice (some ⟨g1, 0, none⟩) m1 c1) ∧ w'.cell? ⟨gm, i * 2, none⟩ = some (.slice (some ⟨g2, 0, none⟩) m2 c2) ∧ w'.cell? ⟨gm, i * 2 + 1, none⟩ = some (.int .i64 tw) ∧ gc < w'.heap.size ∧ gm < w'.heap.size)
        (first | exact S0.out | exact (by assumption : Ft gc gm i g1 m1 c1 g2 m2 c2 tw _))
        (first | (go_at_call 26; refine (PLC.out _ DB.out).mono ?_; rintro e w7 ⟨gr, capr, L, rfl, hLl, hPth, hNum, hb7⟩; have F7 : Ft gc gm i g1 m1 c1 g2 m2 c2 tw w7 := S0.out.on hb7; have B7 := hid (show Below w5.heap.size w5 w7 from DB.out.trans (hb7.mono DB.out.size)); have HLL := hid hLl; have PTH := hid hPth; have NUM := hid hNum; clear hb7 hLl hPth hNum))
      clear t0 t1 t2 t3 t4 S0 DB
      obtain ⟨t0, -, -, t3, -⟩ := F7
      have hgr := NUM.out.1
      obtain ⟨ll, hll⟩ : ∃ ll, ll = L.length := ⟨_, rfl⟩
      rw [← hll] at HLL ⊢
      have HL2 := hid hll
      clear hll
      have n1 : 0 + m1 ≤ maxLen := by unfold maxLen; omega
      go_wp2_with (first
        | (at_builtin; refine wpList_append_own_at _ rfl _ _ 41 rfl w7.heap.size 47 ip (.agg #[.int .i64 0, .int .i64 0]) 2 16 Try.underlying41 hip hp0 hp1 hp2 rfl (by decide) _ _ _ rfl (World.ownsRow_nil _ _ _ _) ⟨g1, 0, none⟩ m1 c1 (Qm.ptsV ps) rfl LP.out (NW.out _ B7.out) (pts_one _) n1 (by omega) (Nat.le_refl _) ?_))
      intro v8 w8 o8 g8 _ _
      have A8 := hid (show Below w7.heap.size w7 w8 from (Below.refl _ _).grown g8 (Nat.le_refl _) (fun q hq => by simp [Value.ownBlock] at hq))
      have O8 := hid o8
      have B8 := hid (B7.out.trans (A8.out.mono B7.out.size))
      have z8 := A8.out.size
      obtain ⟨r0, r1⟩ := (Q1.out.on B8.out Q1.out.1).2 0 (by rw [← HM1.out]; exact m01)
      simp only [Nat.zero_mul, Nat.zero_add] at r0 r1
      obtain ⟨⟨fa, fb⟩, hff⟩ : ∃ p, p = ps.getD 0 (0, 0) := ⟨_, rfl⟩
      rw [← hff] at r0 r1 FS
      dsimp only at r0 r1
      obtain ⟨u0, -, -, u3, -⟩ := F0.out _ B8.out
      have g18 : g1 < w8.heap.size := Nat.lt_of_lt_of_le Q1.out.1 B8.out.size
      have n2 : m1 + 1 ≤ maxLen := by unfold maxLen; omega
      have n3 : (m1 + 1) * 16 ≤ 140737488355328 := by omega
      have n4 : w7.heap.size ≤ (w8.alloc (.cells #[.int .i64 fa, .int .i64 fb] 47)).heap.size := by simp; omega
      have m1p : (0 : Int) < (m1 : Nat) := by omega
      clear o8 g8 t0 t3 hff
      go_wp2_with (first
        | (at_builtin; refine wpList_append_own_at _ rfl _ _ 41 rfl w7.heap.size 47 ip (.agg #[.int .i64 0, .int .i64 0]) 2 16 Try.underlying41 hip hp0 hp1 hp2 rfl (by decide) _ _ _ rfl (O8.out.alloc _) ⟨_, 0, none⟩ 1 1 [.int .i64 fa, .int .i64 fb] rfl rfl (two_cells _ _ _ _) (two_one _ _) n2 n3 n4 ?_))
      intro v9 w9 o9 g9 _ _
      have A9 := hid (show Below w7.heap.size w7 w9 from (A8.out.alloc z8 _).grown g9 n4 (fun q hq => (O8.out.lt q hq).1))
      have o9' : w9.ownsRow w7.heap.size 47 2 v9 (m1 + 1) (Qm.ptsV (ps ++ [Qm.fstP ps])) := by rw [Qm.ptsV_snoc, FS.out]; exact o9
      obtain ⟨gv, capv, rfl, hgv0, hpv, -⟩ := own_at o9' (by omega)
      obtain ⟨_, capv', ecv, hcv'⟩ := own_cap o9'
      have hcv : m1 + 1 ≤ capv := by injection ecv with _ _ e; omega
      have HPV := hid hpv
      have hgv := hpv.1
      have B9 := hid (B7.out.trans (A9.out.mono B7.out.size))
      have NUM9 := hid (NUM.out.on A9.out hgr)
      have z9 := A9.out.size
      clear o9 g9 o9' hpv ecv hcv' r0 r1 u0 u3
      go_wp2_with fail
      go_loopw [22] (fun kv wr => ∃ k : Nat, k ≤ ll ∧ kv = .int .i64 k ∧ Hid (Below w9.heap.size w9 wr)) (fun k _ => ll - (intOf k).toNat)
      case atStart => exact ⟨0, by omega, rfl, Below.refl _ _⟩
      case round =>
        clear hB
        obtain ⟨k, hk, rfl, hB⟩ := hrel
        have hlb : ll ≤ 4357 := by have := HLL.out; omega
        by_cases hkl : k + 2 < ll
        · obtain ⟨n1', n2', n3'⟩ := NS.out L PTH.out (by rw [← HL2.out]; exact HLL.out) k (by rw [← HL2.out]; exact hkl)
          have x0 := (NUM9.out.on hB.out (by omega)).2 k (by rw [← HL2.out]; omega)
          have x1 := (NUM9.out.on hB.out (by omega)).2 (k + 2) (by rw [← HL2.out]; omega)
          rw [← HM1.out] at n2'
          obtain ⟨a, ha⟩ : ∃ a, a = L.getD k 0 := ⟨_, rfl⟩
          obtain ⟨b, hb⟩ : ∃ b, b = L.getD (k + 2) 0 := ⟨_, rfl⟩
          rw [← ha] at n1' n3' x0
          rw [← hb] at n1' n2' n3' x1
          have SLN := hid (Qm.sl_len (v := ps ++ [Qm.fstP ps]) (i := a) (j := b) (by omega) (by rw [List.length_append, List.length_singleton, ← HM1.out]; omega))
          have SMS := hid (show Qm.Small (Qm.sl (ps ++ [Qm.fstP ps]) a b) from fun p hp => by
            rcases List.mem_append.1 (List.mem_of_mem_drop (List.mem_of_mem_take hp)) with h | h
            · exact SMP.out p h
            · rw [List.mem_singleton.1 h]; exact SMP.out.at 0)
          have US := hid (UN.out.sl (i := a) (j := b) (by omega) (by rw [List.length_append, List.length_singleton, ← HM1.out]; omega))
          have FI := hid (fun W' (hW : Below w9.heap.size w9 W') => keepFits_any gv (a * 2) (b + 1 - a) (capv - a) (Qm.sl (ps ++ [Qm.fstP ps]) a b) (by rw [SLN.out]; omega) (by omega) SMS.out (by omega) US.out W' ((HPV.out.on hW (by omega)).sl a b))
          rw [n3'] at FI
          have DB := hid (show Below w9.heap.size w9 wr.drew from hB.out.trans ⟨rfl, rfl, rfl, Nat.le_refl _, fun _ _ => rfl⟩)
          have hzr := hB.out.size
          have grr : gr < wr.heap.size := by omega
          have grd : gr < wr.drew.heap.size := grr
          have S0 := hid (show wr.drew.cell? ⟨gr, k, none⟩ = some (.int .i64 (a : Nat)) ∧ wr.drew.cell? ⟨gr, k + 2, none⟩ = some (.int .i64 (b : Nat)) from ⟨x0, x1⟩)
          have k1 : (0 : Int) ≤ (k : Nat) := by omega
          have k2 : ((k : Nat) : Int) < (ll : Nat) := by omega
          have k3 : (0 : Int) ≤ (k : Int) + 2 := by omega
          have k4 : (k : Int) + 2 < (ll : Nat) := by omega
          have k5 : IntKind.i64.wrap ((k : Int) + 2) = (k : Int) + 2 := by rw [IntKind.wrap_i64]; omega
          have k10 : ((k : Int) + 2).toNat = k + 2 := by omega
          have k11 : ¬ capv = a := by omega
          have k6 : (0 : Int) ≤ (a : Nat) := by omega
          have k7 : ((a : Nat) : Int) ≤ (b : Int) + 1 := by omega
          have k8 : (b : Int) + 1 ≤ (capv : Nat) := by omega
          have k9 : IntKind.i64.wrap ((b : Int) + 1) = (b : Int) + 1 := by rw [IntKind.wrap_i64]; omega
          clear ha hb n3' SLN SMS US
          go_wp2_with fail
          go_region_held3 (fun w' => w'.cell? ⟨gr, k, none⟩ = some (.int .i64 (a : Nat)) ∧ w'.cell? ⟨gr, k + 2, none⟩ = some (.int .i64 (b : Nat)))
            (first | exact S0.out | exact (by assumption : _ ∧ _))
            (first | (go_at_call 27; refine (FI.out _ DB.out).mono ?_; rintro e w10 ⟨rfl, hb10⟩; have hS2 : w10.cell? ⟨gr, k, none⟩ = some (.int .i64 (a : Nat)) ∧ w10.cell? ⟨gr, k + 2, none⟩ = some (.int .i64 (b : Nat)) := ⟨(hb10.cell (p := ⟨gr, k, none⟩) grd).trans S0.out.1, (hb10.cell (p := ⟨gr, k + 2, none⟩) grd).trans S0.out.2⟩; have B10 := hid (show Below w9.heap.size w9 w10 from DB.out.trans (hb10.mono DB.out.size)); clear hb10))
          clear x0 x1 hS2 k5 k9 k10
          go_wp2
          go_roundw
          case rel => exact ⟨k + 1, by omega, by go_num, B10⟩
          case measure => simp [intOf]; omega
        · have k4 : ¬ (k : Int) + 2 < (ll : Nat) := by omega
          have BN := hid (B9.out.trans (hB.out.mono B9.out.size))
          go_wp2
          go_roundw
          case rel => exact ⟨i + 1, by omega, by go_num, BN⟩
          case measure => simp [intOf]; omega
    · have ei : i = n := by omega
      subst ei
      have hlt' : ¬ (i : Int) < (i : Nat) := by omega
      have BE := hid (B5.out.trans (hB.out.mono B5.out.size))
      go_wp2
      go_ret
      exact ⟨rfl, BE.out⟩
end Go.Proofs.Ytgapfjjdccohkaa
