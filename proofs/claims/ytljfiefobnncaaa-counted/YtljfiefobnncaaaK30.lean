import Derived.Test.YtljfiefobnncaaaK26
import Derived.Test.YtljfiefobnncaaaK29
import Derived.Test.YtljfiefobnncaaaK23
import Derived.Test.YtljfiefobnncaaaK20

/- outlinekeep: Fitting. -/
namespace Go.Proofs.Ytljfiefobnncaaa
open Go.RowKit
attribute [local go_sem ↓] Go.wp_at_zero Go.wp_at_succ

/-- No two lines that follow one another could be one. -/
theorem no_skip {c : List (Int × Int)} (h0 : 0 < c.length) (hu : Qm.Unit (c ++ [Qm.fstP c])) {L : List Nat} (hL : Qm.Pth (Qm.okV (c ++ [Qm.fstP c])) 0 c.length L) (hl : L.length = (Qm.cornL c).length + 1) {k : Nat} (hk : k + 2 < L.length) :
    L.getD k 0 + 2 ≤ L.getD (k + 2) 0 ∧ L.getD (k + 2) 0 ≤ c.length ∧ Qm.kfB (Qm.sl (c ++ [Qm.fstP c]) (L.getD k 0) (L.getD (k + 2) 0)) = false := by
  have s1 := hL.step k (by omega)
  have s2 := hL.step (k + 1) (by omega)
  have a1 := s1.1
  have a2 := s2.1
  have a3 := s2.2.1
  rw [List.length_append, List.length_singleton] at a3
  refine ⟨by rw [show k + 2 = k + 1 + 1 from rfl]; omega, by rw [show k + 2 = k + 1 + 1 from rfl]; omega, ?_⟩
  cases e : Qm.kfB (Qm.sl (c ++ [Qm.fstP c]) (L.getD k 0) (L.getD (k + 2) 0)) with
  | false => rfl
  | true =>
    exfalso
    unfold Qm.kfB at e
    rw [Bool.and_eq_true, decide_eq_true_eq, Qm.sl_len (by rw [show k + 2 = k + 1 + 1 from rfl]; omega) (by rw [List.length_append, List.length_singleton, show k + 2 = k + 1 + 1 from rfl]; omega)] at e
    have ok : Qm.okV (c ++ [Qm.fstP c]) (L.getD k 0) (L.getD (k + 2) 0) := ⟨by rw [show k + 2 = k + 1 + 1 from rfl]; omega, by rw [List.length_append, List.length_singleton, show k + 2 = k + 1 + 1 from rfl]; omega, by omega, e.2⟩
    have sh := hL.skip k hk ok
    have op := (Qm.cornN_is h0 hu).2 _ sh
    have l1 : (L.eraseIdx (k + 1)).length = L.length - 1 := List.length_eraseIdx_of_lt (by omega)
    have l2 : (Qm.cornN c ++ [c.length]).length = (Qm.cornL c).length + 1 := by simp [Qm.cornL]
    rcases op with h | ⟨h, _⟩ <;> omega

/-- Two lists and the shapes number i of both. -/
def Ft (gc gm i g1 m1 c1 g2 m2 c2 : Nat) (tw : Int) (w : World) : Prop :=
  w.cell? ⟨gc, i * 2, none⟩ = some (.slice (some ⟨g1, 0, none⟩) m1 c1) ∧ w.cell? ⟨gm, i * 2, none⟩ = some (.slice (some ⟨g2, 0, none⟩) m2 c2) ∧ w.cell? ⟨gm, i * 2 + 1, none⟩ = some (.int .i64 tw) ∧ gc < w.heap.size ∧ gm < w.heap.size
theorem Ft.on {gc gm i g1 m1 c1 g2 m2 c2 : Nat} {tw : Int} {w w' : World} (h : Ft gc gm i g1 m1 c1 g2 m2 c2 tw w) (hb : Below w.heap.size w w') : Ft gc gm i g1 m1 c1 g2 m2 c2 tw w' := by
  obtain ⟨h1, h2, h3, h4, h5⟩ := h
  exact ⟨(hb.cell (p := ⟨gc, i * 2, none⟩) h4).trans h1, (hb.cell (p := ⟨gm, i * 2, none⟩) h5).trans h2, (hb.cell (p := ⟨gm, i * 2 + 1, none⟩) h5).trans h3, Nat.lt_of_lt_of_le h4 hb.size, Nat.lt_of_lt_of_le h5 hb.size⟩

set_option maxRecDepth 4000 in
set_option maxHeartbeats 4000000 in
theorem fitting_any (ao : Option Addr) (len cap : Nat) (a h p : Int) (draws : ByteArray) (w : World) (hraw : RawIs ao len w) (hlen : len ≤ 140737488355328) (a1 : -9223372036854775808 ≤ a) (a2 : a ≤ 9223372036854775807) (h1 : -9223372036854775808 ≤ h) (h2 : h ≤ 9223372036854775807) (p1 : -9223372036854775808 ≤ p) (p2 : p ≤ 9223372036854775807) :
    Calls Try.prog 7 #[.slice ao len cap, .int .i64 a, .int .i64 h, .int .i64 p, .string draws] w fun e w' => e = .returned (.bool true) ∧ Below w.heap.size w w' := by
  obtain ⟨ip, hip, hp0, hp1, hp2⟩ := info_parts infoPoint
  have RW := hid hraw
  clear hraw
  go_enter Try.func7, Try.ntmps7
  go_wp2_with fail
  refine (traces_any _).mono ?_
  rintro e w1 ⟨rfl, hb⟩
  have B1 := hid (show Below w.heap.size w w1 from hb)
  clear hb
  go_wp2_with fail
  refine (built_most 14 (by omega) (by omega) ao len cap a h _ (RW.out.on B1.out) hlen a1 a2 h1 h2).mono ?_
  rintro e w2 ⟨⟨W, H, l, rfl, W1, W2', H1, H2', hl, hall⟩, hb⟩
  have W2 : W ≤ 32 := by omega
  have H2 : H ≤ 32 := by omega
  have MAY := hid (fun (pol : Nat) (hp : pol ≤ 3) => show mayB W H (⟨l.toArray⟩ : ByteArray).data.toList pol 0 = true from may_of (good_of W1 W2 H1 H2 hl hall) (by omega) (by omega) (by omega) (by omega))
  have HL := hid (show (⟨l.toArray⟩ : ByteArray).size = W * H from hl)
  have B2 := hid (show Below w.heap.size w w2 from B1.out.trans (hb.mono B1.out.size))
  clear hall hl hb RW
  obtain ⟨s, hs⟩ : ∃ s : ByteArray, s = ⟨l.toArray⟩ := ⟨_, rfl⟩
  rw [← hs] at MAY HL ⊢
  clear hs
  go_wp2_with fail
  refine (options_any p draws p1 p2 _).mono ?_
  rintro e w3 ⟨⟨pol, rfl, hpol⟩, hb⟩
  have X0 := hid ((Box3.new w2 (.int .i64 W) (.int .i64 H) (.string s) 23).on hb)
  have Y0 := hid ((X0.out.alloc (.cells #[.int .i64 pol, .string draws, .int .i64 0] 25)))
  have O0 := hid (Box3.new w3 (.int .i64 pol) (.string draws) (.int .i64 0) 25)
  have B3 := hid (show Below w.heap.size w w3 from B2.out.trans (X0.out.2.2.1.mono B2.out.size))
  clear hb
  obtain ⟨⟨y0, y1, y2⟩, -, -, -⟩ := X0.out
  have k3 : w2.heap.size < w3.heap.size := X0.out.2.2.2
  go_wp2_with fail
  refine (cycles_yes W H s pol draws 0 _ (MAY.out pol hpol) W2 H2 HL.out hpol).mono ?_
  rintro e w4 ⟨vl, rfl, L0, hR, hRow, hb4, hLn⟩
  have RP4 := hid hRow.rowPk
  have Y4 := hid (Y0.out.on hb4)
  have O4 := hid (O0.out.on hb4)
  have B4 := hid (show Below w.heap.size w w4 from (B3.out.alloc B3.out.size _).trans (hb4.mono (by have := B3.out.size; simp; omega)))
  have RES := hid hR
  obtain ⟨R, hRR⟩ : ∃ R, R = L0.map (·.2) := ⟨_, rfl⟩
  obtain ⟨f, hf⟩ : ∃ f, f = fB W H s pol draws := ⟨_, rfl⟩
  obtain ⟨Lc, hLc⟩ : ∃ Lc, Lc = L0.map fun p => (p.1, Qm.ptsOf (fB W H s pol draws) p.2) := ⟨_, rfl⟩
  have ELC := hid (show Lc.map (·.2) = R.map (Qm.ptsOf f) by rw [hLc, hRR, hf]; simp)
  have LCN := hid (show Lc.length = R.length by rw [hLc, hRR]; simp)
  have hRn : R.length ≤ 1200 := by rw [hRR, List.length_map]; exact hLn
  rw [← hRR] at RES
  rw [← hLc] at RP4
  have HF := hid hf
  clear hR hRow hb4 y0 y1 y2 hRR hLc hLn hf
  obtain ⟨⟨y0, y1, y2⟩, -, -, -⟩ := Y4.out
  obtain ⟨⟨o0, o1, o2⟩, -, -, -⟩ := O4.out
  go_wp2_with fail
  refine (trace_yes W H s pol draws 0 _ (MAY.out pol hpol) W2 H2 HL.out hpol (by omega) (by omega)).mono ?_
  rintro e w5 ⟨vm, rfl, R5, Lm, hR5, hLm, hRow5, -, hb5⟩
  obtain rfl := RES.out.unique hR5
  have RP5 := hid hRow5
  have Q5 := hid (RP4.out.on hb5)
  have B5 := hid (B4.out.trans (hb5.mono B4.out.size))
  have PZ := hid (show Lm.map (·.2) = R.map fun c => Qm.cornL (Qm.ptsOf f c) by rw [hLm, HF.out]; exact Qm.polys_zero RES.out (Qm.pic_of W H s.data.toList W2 H2))
  have SM := hid (show ∀ c ∈ R, Qm.Small (Qm.ptsOf f c) ∧ c.2 ≤ 4356 ∧ 0 < c.2 ∧ Qm.Unit (Qm.ptsOf f c ++ [Qm.fstP (Qm.ptsOf f c)]) from fun c hc => by rw [HF.out]; exact ⟨small_pts W2 H2 (RES.out.1 c hc).1, cyc_le W2 H2 (RES.out.1 c hc).1, (RES.out.1 c hc).1.2.1, (RES.out.1 c hc).1.unit⟩)
  have LMP := hid (show ∀ p ∈ Lm, 0 < p.2.length from fun p hp => by
    have : p.2 ∈ R.map fun c => Qm.cornL (Qm.ptsOf f c) := by rw [← PZ.out]; exact List.mem_map_of_mem hp
    obtain ⟨c, hc, e⟩ := List.mem_map.1 this
    rw [← e]; exact Qm.cornL_pos (by rw [Qm.ptsOf_len]; exact (SM.out c hc).2.2.1))
  have LCP := hid (show ∀ p ∈ Lc, 0 < p.2.length from fun p hp => by
    have : p.2 ∈ R.map (Qm.ptsOf f) := by rw [← ELC.out]; exact List.mem_map_of_mem hp
    obtain ⟨c, hc, e⟩ := List.mem_map.1 this
    rw [← e, Qm.ptsOf_len]; exact (SM.out c hc).2.2.1)
  have SHM := hid (RP5.out.shown LMP.out)
  have SHC := hid (Q5.out.shown LCP.out)
  have LMN := hid (show Lm.length = R.length by have := congrArg List.length PZ.out; simpa using this)
  clear hR5 hLm hRow5 hb5 y0 y1 y2 o0 o1 o2
  obtain ⟨ac, cc, rfl, hrc⟩ := SHC.out.row
  obtain ⟨am, cm, rfl, hrm⟩ := SHM.out.row
  obtain ⟨n, hn⟩ : ∃ n, n = R.length := ⟨_, rfl⟩
  rw [LCN.out, ← hn] at hrc
  rw [LMN.out, ← hn] at hrm
  rw [LCN.out] at SHC
  rw [LMN.out] at SHM
  rw [LCN.out, LMN.out]
  rw [← hn] at hRn SHC SHM ⊢
  have HN := hid hn
  have HRC := hid hrc
  have HRM := hid hrm
  clear hn hrc hrm
  go_wp2_with fail
  go_loopw [18] (fun iv wr => ∃ i : Nat, i ≤ n ∧ iv = .int .i64 i ∧ Hid (Below w5.heap.size w5 wr)) (fun i _ => n - (intOf i).toNat)
  case atStart => exact ⟨0, by omega, rfl, Below.refl _ _⟩
  case round =>
    obtain ⟨i, hin, rfl, hB⟩ := hrel
    by_cases hlt : i < n
    · obtain ⟨gc, rfl, hgc, hcc⟩ := HRC.out.resolve_left (by omega)
      obtain ⟨gm, rfl, hgm, hcm⟩ := HRM.out.resolve_left (by omega)
      have hiR : i < R.length := by rw [← HN.out]; exact hlt
      have hiC : i < Lc.length := by rw [LCN.out]; exact hiR
      have hiM : i < Lm.length := by rw [LMN.out]; exact hiR
      obtain ⟨g1, c1, -, m01, q1, d0, d1⟩ := SHC.out.at hcc hiC
      obtain ⟨g2, c2, -, m02, q2, e0, e1⟩ := SHM.out.at hcm hiM
      have E1 : Lc[i].2 = Qm.ptsOf f R[i] := by
        have := congrArg (fun l => l[i]?) ELC.out
        simpa [hiC, hiR] using this
      have E2 : Lm[i].2 = Qm.cornL (Qm.ptsOf f R[i]) := by
        have := congrArg (fun l => l[i]?) PZ.out
        simpa [hiM, hiR] using this
      obtain ⟨sm, hle, _, un⟩ := SM.out R[i] (List.getElem_mem hiR)
      have PLN := Qm.ptsOf_len f R[i]
      rw [E1] at m01 q1 d0
      rw [E2] at m02 q2 e0 e1
      obtain ⟨ps, hps⟩ : ∃ ps, ps = Qm.ptsOf f R[i] := ⟨_, rfl⟩
      rw [← hps] at m01 q1 d0 m02 q2 e0 e1 sm un PLN
      have cle := Qm.cornL_le ps
      obtain ⟨pq, hpq⟩ : ∃ pq, pq = Qm.cornL ps := ⟨_, rfl⟩
      rw [← hpq] at m02 q2 e0 e1 cle
      obtain ⟨m1, hm1⟩ : ∃ m, m = ps.length := ⟨_, rfl⟩
      obtain ⟨m2, hm2⟩ : ∃ m, m = pq.length := ⟨_, rfl⟩
      rw [← hm1] at m01 d0 PLN cle
      rw [← hm2] at m02 e0 cle
      obtain ⟨tw, htw⟩ : ∃ tw, tw = Qm.twiceOf pq := ⟨_, rfl⟩
      have m1b : m1 ≤ 4356 := by omega
      have m2b : m2 ≤ 4356 := by omega
      have spq : Qm.Small pq := by rw [hpq]; exact Qm.cornL_small sm
      have TW := hid (fun W' (hW : Below w5.heap.size w5 W') => keepTwice_any g2 m2 c2 tw pq hm2 m02 spq (by omega) W' (q2.on hW q2.1))
      rw [← htw] at e1 TW
      have PLC := hid (fun W' (hW : Below w5.heap.size w5 W') => places_any g1 m1 c1 g2 m2 c2 ps pq hm1 m01 sm (by omega) un hm2 m02 (by omega) hpq W' (q1.on hW q1.1) (q2.on hW q2.1))
      have NS := hid (fun (L : List Nat) (hL : Qm.Pth (Qm.okV (ps ++ [Qm.fstP ps])) 0 m1 L) (hl : L.length = m2 + 1) (k : Nat) (hk : k + 2 < L.length) => no_skip (c := ps) (by omega) un (L := L) (by rw [← hm1]; exact hL) (by rw [hl, hm2, hpq]) hk)
      have F0 := hid (show ∀ W', Below w5.heap.size w5 W' → Ft gc gm i g1 m1 c1 g2 m2 c2 tw W' from fun W' hW => ⟨(hW.cell (p := ⟨gc, i * 2, none⟩) hgc).trans d0, (hW.cell (p := ⟨gm, i * 2, none⟩) hgm).trans e0, (hW.cell (p := ⟨gm, i * 2 + 1, none⟩) hgm).trans e1, Nat.lt_of_lt_of_le hgc hW.size, Nat.lt_of_lt_of_le hgm hW.size⟩)
      have NW := hid (show ∀ W', Below w5.heap.size w5 W' → ∀ j u, (Qm.ptsV ps)[j]? = some u → W'.cell? ((⟨g1, 0, none⟩ : Addr).add j) = some u from fun W' hW => by
        have := (q1.on hW q1.1).news 0 m1 (by omega)
        rw [List.drop_zero, hm1, List.take_length] at this
        simpa using this)
      have LP := hid (show (Qm.ptsV ps).length = m1 * 2 by rw [Qm.ptsV_len, hm1])
      have Q1 := hid q1
      have FS := hid (show Qm.fstP ps = ps.getD 0 (0, 0) from rfl)
      have SMP := hid sm
      have UN := hid un
      have HM1 := hid hm1
      have i1 : (0 : Int) ≤ (i : Nat) := by omega
      have i2 : ((i : Nat) : Int) < (n : Nat) := by omega
      have z1 : ((m1 : Int) == 0) = false := by simp; omega
      have z2 : ((m2 : Int) == 0) = false := by simp; omega
      have z3 : (m1 == 0) = false := by simp; omega
      have z4 : (m2 == 0) = false := by simp; omega
      have z5 : ¬ m1 = 0 := by omega
      have z6 : ¬ m2 = 0 := by omega
      have DB := hid (show Below w5.heap.size w5 wr.drew from hB.out.trans ⟨rfl, rfl, rfl, Nat.le_refl _, fun _ _ => rfl⟩)
      have S0 := hid (F0.out _ DB.out)
      obtain ⟨t0, t1, t2, t3, t4⟩ := F0.out _ hB.out
      clear hcc hcm q1 q2 d0 d1 e0 e1 E1 E2 hps hpq hm1 hm2 htw spq sm un PLN
      go_wp2_with fail
      go_region_held3 (fun w' => w'.cell? ⟨gc, i * 2, none⟩ = some (.slice (some ⟨g1, 0, none⟩) m1 c1) ∧ w'.cell? ⟨gm, i * 2, none⟩ = some (.slice (some ⟨g2, 0, none⟩) m2 c2) ∧ w'.cell? ⟨gm, i * 2 + 1, none⟩ = some (.int .i64 tw) ∧ gc < w'.heap.size ∧ gm < w'.heap.size)
        (first | exact S0.out | exact (by assumption : Ft gc gm i g1 m1 c1 g2 m2 c2 tw _))
        (first | (go_at_call 17; refine (TW.out _ DB.out).mono ?_; rintro e w6 ⟨rfl, hb6⟩; have F6 : Ft gc gm i g1 m1 c1 g2 m2 c2 tw w6 := S0.out.on hb6; have B6 := hid (show Below w5.heap.size w5 w6 from DB.out.trans (hb6.mono DB.out.size)); clear hb6))
      clear t0 t1 t2 t3 t4 S0 DB
      have DB := hid (show Below w5.heap.size w5 w6.drew from B6.out.trans ⟨rfl, rfl, rfl, Nat.le_refl _, fun _ _ => rfl⟩)
      have S0 := hid (F0.out _ DB.out)
      obtain ⟨t0, t1, t2, t3, t4⟩ := F6
      go_wp2_with fail
      go_region_held3 (fun w' => w'.cell? ⟨gc, i * 2, none⟩ = some (.slice (some ⟨g1, 0, none⟩) m1 c1) ∧ w'.cell? ⟨gm, i * 2, none⟩ = some (.slice (some ⟨g2, 0, none⟩) m2 c2) ∧ w'.cell? ⟨gm, i * 2 + 1, none⟩ = some (.int .i64 tw) ∧ gc < w'.heap.size ∧ gm < w'.heap.size)
        (first | exact S0.out | exact (by assumption : Ft gc gm i g1 m1 c1 g2 m2 c2 tw _))
        (first | (go_at_call 27; refine (PLC.out _ DB.out).mono ?_; rintro e w7 ⟨gr, capr, L, rfl, hLl, hPth, hNum, hb7⟩; have F7 : Ft gc gm i g1 m1 c1 g2 m2 c2 tw w7 := S0.out.on hb7; have B7 := hid (show Below w5.heap.size w5 w7 from DB.out.trans (hb7.mono DB.out.size)); have HLL := hid hLl; have PTH := hid hPth; have NUM := hid hNum; clear hb7 hLl hPth hNum))
      clear t0 t1 t2 t3 t4 S0 DB
      obtain ⟨t0, -, -, t3, -⟩ := F7
      have hgr := NUM.out.1
      obtain ⟨ll, hll⟩ : ∃ ll, ll = L.length := ⟨_, rfl⟩
      rw [← hll] at HLL ⊢
      have HL2 := hid hll
      clear hll
      have n1 : 0 + m1 ≤ maxLen := by unfold maxLen; omega
      go_wp2_with (first
        | (at_builtin; refine wpList_append_own_at _ rfl _ _ 41 rfl w7.heap.size 47 ip (.agg #[.int .i64 0, .int .i64 0]) 2 16 Try.underlying41 hip hp0 hp1 hp2 rfl (by decide) _ _ _ rfl (World.ownsRow_nil _ _ _ _) ⟨g1, 0, none⟩ m1 c1 (Qm.ptsV ps) rfl LP.out (NW.out _ B7.out) (pts_one _) n1 (by omega) (Nat.le_refl _) ?_))
      intro v8 w8 o8 g8 _ _
      have A8 := hid (show Below w7.heap.size w7 w8 from (Below.refl _ _).grown g8 (Nat.le_refl _) (fun q hq => by simp [Value.ownBlock] at hq))
      have O8 := hid o8
      have B8 := hid (B7.out.trans (A8.out.mono B7.out.size))
      have z8 := A8.out.size
      obtain ⟨r0, r1⟩ := (Q1.out.on B8.out Q1.out.1).2 0 (by rw [← HM1.out]; exact m01)
      simp only [Nat.zero_mul, Nat.zero_add] at r0 r1
      obtain ⟨⟨fa, fb⟩, hff⟩ : ∃ p, p = ps.getD 0 (0, 0) := ⟨_, rfl⟩
      rw [← hff] at r0 r1 FS
      dsimp only at r0 r1
      obtain ⟨u0, -, -, u3, -⟩ := F0.out _ B8.out
      have g18 : g1 < w8.heap.size := Nat.lt_of_lt_of_le Q1.out.1 B8.out.size
      have n2 : m1 + 1 ≤ maxLen := by unfold maxLen; omega
      have n3 : (m1 + 1) * 16 ≤ 140737488355328 := by omega
      have n4 : w7.heap.size ≤ (w8.alloc (.cells #[.int .i64 fa, .int .i64 fb] 47)).heap.size := by simp; omega
      have m1p : (0 : Int) < (m1 : Nat) := by omega
      clear o8 g8 t0 t3 hff
      go_wp2_with (first
        | (at_builtin; refine wpList_append_own_at _ rfl _ _ 41 rfl w7.heap.size 47 ip (.agg #[.int .i64 0, .int .i64 0]) 2 16 Try.underlying41 hip hp0 hp1 hp2 rfl (by decide) _ _ _ rfl (O8.out.alloc _) ⟨_, 0, none⟩ 1 1 [.int .i64 fa, .int .i64 fb] rfl rfl (two_cells _ _ _ _) (two_one _ _) n2 n3 n4 ?_))
      intro v9 w9 o9 g9 _ _
      have A9 := hid (show Below w7.heap.size w7 w9 from (A8.out.alloc z8 _).grown g9 n4 (fun q hq => (O8.out.lt q hq).1))
      have o9' : w9.ownsRow w7.heap.size 47 2 v9 (m1 + 1) (Qm.ptsV (ps ++ [Qm.fstP ps])) := by rw [Qm.ptsV_snoc, FS.out]; exact o9
      obtain ⟨gv, capv, rfl, hgv0, hpv, -⟩ := own_at o9' (by omega)
      obtain ⟨_, capv', ecv, hcv'⟩ := own_cap o9'
      have hcv : m1 + 1 ≤ capv := by injection ecv with _ _ e; omega
      have HPV := hid hpv
      have hgv := hpv.1
      have B9 := hid (B7.out.trans (A9.out.mono B7.out.size))
      have NUM9 := hid (NUM.out.on A9.out hgr)
      have z9 := A9.out.size
      clear o9 g9 o9' hpv ecv hcv' r0 r1 u0 u3
      go_wp2_with fail
      go_loopw [22] (fun kv wr => ∃ k : Nat, k ≤ ll ∧ kv = .int .i64 k ∧ Hid (Below w9.heap.size w9 wr)) (fun k _ => ll - (intOf k).toNat)
      case atStart => exact ⟨0, by omega, rfl, Below.refl _ _⟩
      case round =>
        clear hB
        obtain ⟨k, hk, rfl, hB⟩ := hrel
        have hlb : ll ≤ 4357 := by have := HLL.out; omega
        by_cases hkl : k + 2 < ll
        · obtain ⟨n1', n2', n3'⟩ := NS.out L PTH.out (by rw [← HL2.out]; exact HLL.out) k (by rw [← HL2.out]; exact hkl)
          have x0 := (NUM9.out.on hB.out (by omega)).2 k (by rw [← HL2.out]; omega)
          have x1 := (NUM9.out.on hB.out (by omega)).2 (k + 2) (by rw [← HL2.out]; omega)
          rw [← HM1.out] at n2'
          obtain ⟨a, ha⟩ : ∃ a, a = L.getD k 0 := ⟨_, rfl⟩
          obtain ⟨b, hb⟩ : ∃ b, b = L.getD (k + 2) 0 := ⟨_, rfl⟩
          rw [← ha] at n1' n3' x0
          rw [← hb] at n1' n2' n3' x1
          have SLN := hid (Qm.sl_len (v := ps ++ [Qm.fstP ps]) (i := a) (j := b) (by omega) (by rw [List.length_append, List.length_singleton, ← HM1.out]; omega))
          have SMS := hid (show Qm.Small (Qm.sl (ps ++ [Qm.fstP ps]) a b) from fun p hp => by
            rcases List.mem_append.1 (List.mem_of_mem_drop (List.mem_of_mem_take hp)) with h | h
            · exact SMP.out p h
            · rw [List.mem_singleton.1 h]; exact SMP.out.at 0)
          have US := hid (UN.out.sl (i := a) (j := b) (by omega) (by rw [List.length_append, List.length_singleton, ← HM1.out]; omega))
          have FI := hid (fun W' (hW : Below w9.heap.size w9 W') => keepFits_any gv (a * 2) (b + 1 - a) (capv - a) (Qm.sl (ps ++ [Qm.fstP ps]) a b) (by rw [SLN.out]; omega) (by omega) SMS.out (by omega) US.out W' ((HPV.out.on hW (by omega)).sl a b))
          rw [n3'] at FI
          have DB := hid (show Below w9.heap.size w9 wr.drew from hB.out.trans ⟨rfl, rfl, rfl, Nat.le_refl _, fun _ _ => rfl⟩)
          have hzr := hB.out.size
          have grr : gr < wr.heap.size := by omega
          have grd : gr < wr.drew.heap.size := grr
          have S0 := hid (show wr.drew.cell? ⟨gr, k, none⟩ = some (.int .i64 (a : Nat)) ∧ wr.drew.cell? ⟨gr, k + 2, none⟩ = some (.int .i64 (b : Nat)) from ⟨x0, x1⟩)
          have k1 : (0 : Int) ≤ (k : Nat) := by omega
          have k2 : ((k : Nat) : Int) < (ll : Nat) := by omega
          have k3 : (0 : Int) ≤ (k : Int) + 2 := by omega
          have k4 : (k : Int) + 2 < (ll : Nat) := by omega
          have k5 : IntKind.i64.wrap ((k : Int) + 2) = (k : Int) + 2 := by rw [IntKind.wrap_i64]; omega
          have k10 : ((k : Int) + 2).toNat = k + 2 := by omega
          have k11 : ¬ capv = a := by omega
          have k6 : (0 : Int) ≤ (a : Nat) := by omega
          have k7 : ((a : Nat) : Int) ≤ (b : Int) + 1 := by omega
          have k8 : (b : Int) + 1 ≤ (capv : Nat) := by omega
          have k9 : IntKind.i64.wrap ((b : Int) + 1) = (b : Int) + 1 := by rw [IntKind.wrap_i64]; omega
          clear ha hb n3' SLN SMS US
          go_wp2_with fail
          go_region_held3 (fun w' => w'.cell? ⟨gr, k, none⟩ = some (.int .i64 (a : Nat)) ∧ w'.cell? ⟨gr, k + 2, none⟩ = some (.int .i64 (b : Nat)))
            (first | exact S0.out | exact (by assumption : _ ∧ _))
            (first | (go_at_call 28; refine (FI.out _ DB.out).mono ?_; rintro e w10 ⟨rfl, hb10⟩; have hS2 : w10.cell? ⟨gr, k, none⟩ = some (.int .i64 (a : Nat)) ∧ w10.cell? ⟨gr, k + 2, none⟩ = some (.int .i64 (b : Nat)) := ⟨(hb10.cell (p := ⟨gr, k, none⟩) grd).trans S0.out.1, (hb10.cell (p := ⟨gr, k + 2, none⟩) grd).trans S0.out.2⟩; have B10 := hid (show Below w9.heap.size w9 w10 from DB.out.trans (hb10.mono DB.out.size)); clear hb10))
          clear x0 x1 hS2 k5 k9 k10
          go_wp2
          go_roundw
          case rel => exact ⟨k + 1, by omega, by go_num, B10⟩
          case measure => simp [intOf]; omega
        · have k4 : ¬ (k : Int) + 2 < (ll : Nat) := by omega
          have BN := hid (B9.out.trans (hB.out.mono B9.out.size))
          go_wp2
          go_roundw
          case rel => exact ⟨i + 1, by omega, by go_num, BN⟩
          case measure => simp [intOf]; omega
    · have ei : i = n := by omega
      subst ei
      have hlt' : ¬ (i : Int) < (i : Nat) := by omega
      have BE := hid (B5.out.trans (hB.out.mono B5.out.size))
      go_wp2
      go_ret
      exact ⟨rfl, BE.out⟩
end Go.Proofs.Ytljfiefobnncaaa

/- Pieces of black and of white that hold together, and the cycles round them. Nothing of the program stands here. -/
namespace Go.Proofs.Ytljfiefobnncaaa.Qm

/-- The four pixels round a point: nw, ne, se, sw. -/
def ps4 (p : Int × Int) : Nat → Int × Int
  | 0 => (p.1 - 1, p.2 - 1)
  | 1 => (p.1, p.2 - 1)
  | 2 => (p.1, p.2)
  | _ => (p.1 - 1, p.2)
theorem p40 (p : Int × Int) : ps4 p 0 = (p.1 - 1, p.2 - 1) := rfl
theorem p41 (p : Int × Int) : ps4 p 1 = (p.1, p.2 - 1) := rfl
theorem p42 (p : Int × Int) : ps4 p 2 = (p.1, p.2) := rfl
theorem p43 (p : Int × Int) : ps4 p 3 = (p.1 - 1, p.2) := rfl
def v4 (a b c e : Bool) : Nat → Bool
  | 0 => a
  | 1 => b
  | 2 => c
  | _ => e
def inL : Nat → Nat
  | 0 => 1
  | 1 => 0
  | 2 => 3
  | _ => 2
def ouL : Nat → Nat
  | 0 => 2
  | 1 => 1
  | 2 => 0
  | _ => 3
def inR : Nat → Nat
  | 0 => 0
  | 1 => 3
  | 2 => 2
  | _ => 1
def ouR : Nat → Nat
  | 0 => 3
  | 1 => 2
  | 2 => 1
  | _ => 0
/-- Do two of the four hold together? -/
def link (j : Bool) (v : Nat → Bool) (i k : Nat) : Bool := (v i == v k) && (i == k || (i + 1) % 4 == k || (k + 1) % 4 == i || ((i + 2) % 4 == k && (v i == j || v ((i + 1) % 4) == v i || v ((i + 3) % 4) == v i)))
theorem next_link : ∀ (j a b c e : Bool) (d : Fin 4), inQ a b c e d = true → (link j (v4 a b c e) (inL d) (ouL (nextD j a b c e d)) = true ∧ link j (v4 a b c e) (inR d) (ouR (nextD j a b c e d)) = true) := by decide
theorem ouL_lt (d : Nat) : ouL d < 4 := by unfold ouL; split <;> omega
theorem ouR_lt (d : Nat) : ouR d < 4 := by unfold ouR; split <;> omega
theorem inL_lt (d : Nat) : inL d < 4 := by unfold inL; split <;> omega
theorem inR_lt (d : Nat) : inR d < 4 := by unfold inR; split <;> omega

/-- Two pixels next to each other that hold together. -/
def Adj (bl : Int → Int → Bool) (j : Bool) (p q : Int × Int) : Prop := bl p.1 p.2 = bl q.1 q.2 ∧ ((q.1 = p.1 ∧ (q.2 = p.2 + 1 ∨ q.2 = p.2 - 1)) ∨ (q.2 = p.2 ∧ (q.1 = p.1 + 1 ∨ q.1 = p.1 - 1)) ∨ (bl p.1 p.2 = j ∧ (q.1 = p.1 + 1 ∨ q.1 = p.1 - 1) ∧ (q.2 = p.2 + 1 ∨ q.2 = p.2 - 1)))
def InG (W H : Int) (p : Int × Int) : Prop := -1 ≤ p.1 ∧ p.1 ≤ W ∧ -1 ≤ p.2 ∧ p.2 ≤ H
/-- They hold together within the grid. -/
inductive Cn (bl : Int → Int → Bool) (j : Bool) (W H : Int) (p : Int × Int) : Int × Int → Prop
  | refl : Cn bl j W H p p
  | step (q r : Int × Int) : Cn bl j W H p q → Adj bl j q r → InG W H r → Cn bl j W H p r
section
variable {bl : Int → Int → Bool} {j : Bool} {W H : Int} {p q r : Int × Int}
theorem Adj.symm (h : Adj bl j p q) : Adj bl j q p := by
  obtain ⟨h1, h2⟩ := h
  refine ⟨h1.symm, ?_⟩
  rcases h2 with h2 | h2 | ⟨h3, h2⟩
  · exact .inl (by omega)
  · exact .inr (.inl (by omega))
  · exact .inr (.inr ⟨by rw [← h1]; exact h3, by omega⟩)
theorem Cn.trans (h : Cn bl j W H p q) (k : Cn bl j W H q r) : Cn bl j W H p r := by
  induction k with
  | refl => exact h
  | step a b _ hb hg ih => exact .step a b ih hb hg
theorem Cn.one (h : Adj bl j p q) (hg : InG W H q) : Cn bl j W H p q := .step p q .refl h hg
theorem Cn.in (h : Cn bl j W H p q) (hp : InG W H p) : InG W H q := by
  cases h with
  | refl => exact hp
  | step _ _ _ _ hg => exact hg
theorem Cn.symm (h : Cn bl j W H p q) (hp : InG W H p) : Cn bl j W H q p := by
  induction h with
  | refl => exact .refl
  | step a b ha hab hg ih => exact (Cn.one hab.symm (ha.in hp)).trans ih
theorem Cn.colour (h : Cn bl j W H p q) : bl p.1 p.2 = bl q.1 q.2 := by
  induction h with
  | refl => rfl
  | step a b _ hab _ ih => exact ih.trans hab.1
/-- Within the four. -/
theorem link_cn (P : Int × Int) (hg : ∀ i, i < 4 → InG W H (ps4 P i)) {i k : Nat} (hi : i < 4) (hk : k < 4) (h : link j (v4 (bl (P.1 - 1) (P.2 - 1)) (bl P.1 (P.2 - 1)) (bl P.1 P.2) (bl (P.1 - 1) P.2)) i k = true) : Cn bl j W H (ps4 P i) (ps4 P k) := by
  have vv : ∀ i, i < 4 → v4 (bl (P.1 - 1) (P.2 - 1)) (bl P.1 (P.2 - 1)) (bl P.1 P.2) (bl (P.1 - 1) P.2) i = bl (ps4 P i).1 (ps4 P i).2 := by
    intro i hi
    have : i = 0 ∨ i = 1 ∨ i = 2 ∨ i = 3 := by omega
    rcases this with rfl | rfl | rfl | rfl <;> rfl
  have side : ∀ i, i < 4 → bl (ps4 P i).1 (ps4 P i).2 = bl (ps4 P ((i + 1) % 4)).1 (ps4 P ((i + 1) % 4)).2 → Adj bl j (ps4 P i) (ps4 P ((i + 1) % 4)) := by
    intro i hi e
    refine ⟨e, ?_⟩
    have : i = 0 ∨ i = 1 ∨ i = 2 ∨ i = 3 := by omega
    rcases this with rfl | rfl | rfl | rfl
    · exact .inr (.inl ⟨rfl, .inl (show P.1 = P.1 - 1 + 1 by omega)⟩)
    · exact .inl ⟨rfl, .inl (show P.2 = P.2 - 1 + 1 by omega)⟩
    · exact .inr (.inl ⟨rfl, .inr rfl⟩)
    · exact .inl ⟨rfl, .inr rfl⟩
  have diag : ∀ i, i < 4 → bl (ps4 P i).1 (ps4 P i).2 = bl (ps4 P ((i + 2) % 4)).1 (ps4 P ((i + 2) % 4)).2 → bl (ps4 P i).1 (ps4 P i).2 = j → Adj bl j (ps4 P i) (ps4 P ((i + 2) % 4)) := by
    intro i hi e ej
    refine ⟨e, .inr (.inr ⟨ej, ?_⟩)⟩
    have : i = 0 ∨ i = 1 ∨ i = 2 ∨ i = 3 := by omega
    rcases this with rfl | rfl | rfl | rfl
    · exact ⟨.inl (show P.1 = P.1 - 1 + 1 by omega), .inl (show P.2 = P.2 - 1 + 1 by omega)⟩
    · exact ⟨.inr rfl, .inl (show P.2 = P.2 - 1 + 1 by omega)⟩
    · exact ⟨.inr rfl, .inr rfl⟩
    · exact ⟨.inl (show P.1 = P.1 - 1 + 1 by omega), .inr rfl⟩
  unfold link at h
  rw [Bool.and_eq_true, beq_iff_eq] at h
  obtain ⟨hv, h⟩ := h
  rw [vv i hi, vv k hk] at hv
  simp only [Bool.or_eq_true, Bool.and_eq_true, beq_iff_eq] at h
  rw [vv i hi, vv _ (Nat.mod_lt _ (by omega)), vv _ (Nat.mod_lt _ (by omega))] at h
  rcases h with ((h | h) | h) | ⟨h, h2⟩
  · subst h; exact .refl
  · subst h; exact .one (side i hi hv) (hg _ hk)
  · have := side k hk (by rw [h]; exact hv.symm)
    rw [h] at this
    exact .one this.symm (hg _ hk)
  · subst h
    rcases h2 with (h2 | h2) | h2
    · exact .one (diag i hi hv h2) (hg _ hk)
    · have s1 := side i hi h2.symm
      have s2 := side ((i + 1) % 4) (Nat.mod_lt _ (by omega)) (by rw [show ((i + 1) % 4 + 1) % 4 = (i + 2) % 4 from by omega, h2]; exact hv)
      rw [show ((i + 1) % 4 + 1) % 4 = (i + 2) % 4 from by omega] at s2
      exact .step _ _ (.one s1 (hg _ (Nat.mod_lt _ (by omega)))) s2 (hg _ hk)
    · have s1 := side ((i + 3) % 4) (Nat.mod_lt _ (by omega)) (by rw [show ((i + 3) % 4 + 1) % 4 = i from by omega]; exact h2)
      rw [show ((i + 3) % 4 + 1) % 4 = i from by omega] at s1
      have s2 := side ((i + 2) % 4) (Nat.mod_lt _ (by omega)) (by rw [show ((i + 2) % 4 + 1) % 4 = (i + 3) % 4 from by omega, h2]; exact hv.symm)
      rw [show ((i + 2) % 4 + 1) % 4 = (i + 3) % 4 from by omega] at s2
      exact .step _ _ (.one s1.symm (hg _ (Nat.mod_lt _ (by omega)))) s2.symm (hg _ hk)

def lf (s : Sd) : Int × Int := (lpx s.1 s.2.2, lpy s.2.1 s.2.2)
def rt (s : Sd) : Int × Int := (rpx s.1 s.2.2, rpy s.2.1 s.2.2)
theorem lf_in (s : Sd) (h : s.2.2 < 4) : lf s = ps4 (en s) (inL s.2.2) ∧ rt s = ps4 (en s) (inR s.2.2) := by
  obtain ⟨x, y, d⟩ := s
  have : d = 0 ∨ d = 1 ∨ d = 2 ∨ d = 3 := by have : d < 4 := h; omega
  rcases this with rfl | rfl | rfl | rfl <;> simp [lf, rt, lpx, lpy, rpx, rpy, ps4, en, inL, inR] <;> omega
theorem lf_out (s : Sd) (h : s.2.2 < 4) : lf s = ps4 (fromP s) (ouL s.2.2) ∧ rt s = ps4 (fromP s) (ouR s.2.2) := by
  obtain ⟨x, y, d⟩ := s
  have : d = 0 ∨ d = 1 ∨ d = 2 ∨ d = 3 := by have : d < 4 := h; omega
  rcases this with rfl | rfl | rfl | rfl <;> simp [lf, rt, lpx, lpy, rpx, rpy, ps4, fromP, ouL, ouR]
end

section
variable {bl : Int → Int → Bool} {j : Bool} {W H : Int}
theorem lf_next (hp : Pic bl W H) {s : Sd} (h : isS bl s = true) : Cn bl j W H (lf s) (lf (nx bl (fun _ _ => j) s)) ∧ Cn bl j W H (rt s) (rt (nx bl (fun _ _ => j) s)) := by
  have hd := isS_lt h
  have hn := nx_isS (jn := fun _ _ => j) h
  have hi := side_in hp hn
  have hi2 : 0 ≤ (en s).1 ∧ (en s).1 ≤ W ∧ 0 ≤ (en s).2 ∧ (en s).2 ≤ H := hi
  have hg : ∀ i, i < 4 → InG W H (ps4 (en s) i) := by
    intro i hi
    have : i = 0 ∨ i = 1 ∨ i = 2 ∨ i = 3 := by omega
    rcases this with rfl | rfl | rfl | rfl <;> simp only [p40, p41, p42, p43, InG] <;> omega
  rw [isS_in] at h
  have nl := next_link j _ _ _ _ ⟨s.2.2, hd⟩ h
  simp only at nl
  obtain ⟨e1, e2⟩ := lf_in s hd
  obtain ⟨e3, e4⟩ := lf_out (nx bl (fun _ _ => j) s) (isS_lt hn)
  rw [e1, e2, e3, e4]
  exact ⟨link_cn _ hg (inL_lt _) (ouL_lt _) nl.1, link_cn _ hg (inR_lt _) (ouR_lt _) nl.2⟩
theorem it_cn (hp : Pic bl W H) {s : Sd} (h : isS bl s = true) (i : Nat) : Cn bl j W H (lf s) (lf (it (nx bl fun _ _ => j) i s)) ∧ Cn bl j W H (rt s) (rt (it (nx bl fun _ _ => j) i s)) := by
  induction i with
  | zero => exact ⟨.refl, .refl⟩
  | succ i ih =>
    have := lf_next (j := j) hp (it_isS (jn := fun _ _ => j) h i)
    exact ⟨ih.1.trans this.1, ih.2.trans this.2⟩
end
end Go.Proofs.Ytljfiefobnncaaa.Qm

/- Winding numbers are the same all over a piece; a cycle's first point is that of a piece. Nothing of the program stands here. -/
namespace Go.Proofs.Ytljfiefobnncaaa.Qm

section
variable {bl jn : Int → Int → Bool} {c : Sd × Nat}
theorem Cyc.mem_next (h : Cyc (nx bl jn) (fun s => isS bl s = true) c.1 c.2) {s : Sd} (hs : isS bl s = true) : s ∈ cyS (nx bl jn) c ↔ nx bl jn s ∈ cyS (nx bl jn) c := by
  constructor
  · intro hm
    obtain ⟨i, _, rfl⟩ := mem_cyS.1 hm
    exact h.mem (i + 1)
  · intro hm
    obtain ⟨i, _, e⟩ := mem_cyS.1 hm
    cases i with
    | zero =>
      have e2 : nx bl jn s = nx bl jn (it (nx bl jn) (c.2 - 1) c.1) := by
        rw [e]
        show c.1 = it (nx bl jn) (c.2 - 1 + 1) c.1
        rw [Nat.sub_add_cancel h.2.1, h.2.2.1]
      rw [nx_inj hs (it_isS h.1 _) e2]; exact h.mem _
    | succ i =>
      have e2 : nx bl jn s = nx bl jn (it (nx bl jn) i c.1) := e
      rw [nx_inj hs (it_isS h.1 _) e2]; exact h.mem _
theorem ct_iff {S : List Sd} (hn : S.Nodup) {s t : Sd} (h : s ∈ S ↔ t ∈ S) : ct S s = ct S t := by
  by_cases hs : s ∈ S
  · rw [ct_yes hn hs, ct_yes hn (h.1 hs)]
  · rw [ct_no hs, ct_no fun ht => hs (h.2 ht)]
end

section
variable {bl : Int → Int → Bool} {j : Bool} {c : Sd × Nat}
/-- Across a crossing. -/
theorem Cyc.diag (h : Cyc (nx bl fun _ _ => j) (fun s => isS bl s = true) c.1 c.2) (X Y : Int) :
    (bl (X - 1) (Y - 1) = j → bl X Y = j → wn (cyS (nx bl fun _ _ => j) c) (X - 1) (Y - 1) = wn (cyS (nx bl fun _ _ => j) c) X Y) ∧ (bl X (Y - 1) = j → bl (X - 1) Y = j → wn (cyS (nx bl fun _ _ => j) c) X (Y - 1) = wn (cyS (nx bl fun _ _ => j) c) (X - 1) Y) := by
  have hS := h.closed
  have hn := h.nodup
  have hs := h.sides
  have no : ∀ t : Sd, isS bl t = false → ct (cyS (nx bl fun _ _ => j) c) t = 0 := fun t ht => ct_no fun hm => by rw [hs t hm] at ht; simp at ht
  have sx : ∀ x y, bl (x - 1) y = bl x y → wn (cyS (nx bl fun _ _ => j) c) (x - 1) y = wn (cyS (nx bl fun _ _ => j) c) x y := fun x y e => wn_same_x hs e
  have sy : ∀ x y, bl x (y - 1) = bl x y → wn (cyS (nx bl fun _ _ => j) c) x (y - 1) = wn (cyS (nx bl fun _ _ => j) c) x y := fun x y e => wn_same_y hS hs e
  have wx := wn_x (cyS (nx bl fun _ _ => j) c)
  have wy := wn_y hS (fun s hm => isS_lt (hs s hm))
  constructor
  · intro h1 h2
    by_cases h3 : bl X (Y - 1) = j
    · rw [sx X (Y - 1) (by rw [h1, h3]), sy X Y (by rw [h3, h2])]
    · by_cases h4 : bl (X - 1) Y = j
      · rw [sy (X - 1) Y (by rw [h1, h4]), sx X Y (by rw [h4, h2])]
      · have a := wx X (Y - 1)
        have b := wy X Y
        rw [show Y - 1 + 1 = Y from by omega] at a
        cases j with
        | true =>
          simp only [Bool.not_eq_true] at h3 h4
          have i1 : isS bl (X + 1, Y, 3) = true := by simp only [isS, outQ]; rw [show X + 1 - 1 = X from by omega, h2, h3]; rfl
          have e1 : nx bl (fun _ _ => true) (X + 1, Y, 3) = (X, Y, 2) := by
            simp only [nx, en, nxD]
            rw [show X + 1 - 1 = X from by omega, h1, h2, h3, h4]; rfl
          have m := ct_iff hn (h.mem_next i1)
          rw [e1] at m
          have z1 := no (X, Y - 1, 0) (by simp only [isS, outQ]; rw [h3]; rfl)
          have z2 := no (X, Y, 1) (by simp only [isS, outQ]; rw [h3]; rfl)
          omega
        | false =>
          simp only [Bool.not_eq_false] at h3 h4
          have i1 : isS bl (X, Y - 1, 0) = true := by simp only [isS, outQ]; rw [h3, h1]; rfl
          have e1 : nx bl (fun _ _ => false) (X, Y - 1, 0) = (X, Y, 1) := by
            simp only [nx, en, nxD]
            rw [show Y - 1 + 1 = Y from by omega, h1, h2, h3, h4]; rfl
          have m := ct_iff hn (h.mem_next i1)
          rw [e1] at m
          have z1 := no (X, Y, 2) (by simp only [isS, outQ]; rw [h1]; rfl)
          have z2 := no (X + 1, Y, 3) (by simp only [isS, outQ]; rw [show X + 1 - 1 = X from by omega, h2]; rfl)
          omega
  · intro h1 h2
    by_cases h3 : bl X Y = j
    · rw [sy X Y (by rw [h1, h3]), sx X Y (by rw [h2, h3])]
    · by_cases h4 : bl (X - 1) (Y - 1) = j
      · rw [← sx X (Y - 1) (by rw [h4, h1]), sy (X - 1) Y (by rw [h4, h2])]
      · have a := wx X Y
        have b := wy X Y
        cases j with
        | true =>
          simp only [Bool.not_eq_true] at h3 h4
          have i1 : isS bl (X, Y + 1, 2) = true := by simp only [isS, outQ]; rw [show Y + 1 - 1 = Y from by omega, h2, h3]; rfl
          have e1 : nx bl (fun _ _ => true) (X, Y + 1, 2) = (X, Y, 1) := by
            simp only [nx, en, nxD]
            rw [show Y + 1 - 1 = Y from by omega, h1, h2, h3, h4]; rfl
          have m := ct_iff hn (h.mem_next i1)
          rw [e1] at m
          have z1 := no (X, Y, 0) (by simp only [isS, outQ]; rw [h3]; rfl)
          have z2 := no (X + 1, Y, 3) (by simp only [isS, outQ]; rw [show X + 1 - 1 = X from by omega, h3]; rfl)
          omega
        | false =>
          simp only [Bool.not_eq_false] at h3 h4
          have i1 : isS bl (X + 1, Y, 3) = true := by simp only [isS, outQ]; rw [show X + 1 - 1 = X from by omega, h3, h1]; rfl
          have e1 : nx bl (fun _ _ => false) (X + 1, Y, 3) = (X, Y, 0) := by
            simp only [nx, en, nxD]
            rw [show X + 1 - 1 = X from by omega, h1, h2, h3, h4]; rfl
          have m := ct_iff hn (h.mem_next i1)
          rw [e1] at m
          have z1 := no (X, Y + 1, 2) (by simp only [isS, outQ]; rw [show Y + 1 - 1 = Y from by omega, h2]; rfl)
          have z2 := no (X, Y, 1) (by simp only [isS, outQ]; rw [h1]; rfl)
          omega
theorem Cyc.adj (h : Cyc (nx bl fun _ _ => j) (fun s => isS bl s = true) c.1 c.2) {p q : Int × Int} (ha : Adj bl j p q) : wn (cyS (nx bl fun _ _ => j) c) p.1 p.2 = wn (cyS (nx bl fun _ _ => j) c) q.1 q.2 := by
  obtain ⟨a, b⟩ := p
  obtain ⟨u, v⟩ := q
  obtain ⟨he, ha⟩ := ha
  simp only at he ha ⊢
  have sx : ∀ x y, bl (x - 1) y = bl x y → wn (cyS (nx bl fun _ _ => j) c) (x - 1) y = wn (cyS (nx bl fun _ _ => j) c) x y := fun x y e => wn_same_x h.sides e
  have sy : ∀ x y, bl x (y - 1) = bl x y → wn (cyS (nx bl fun _ _ => j) c) x (y - 1) = wn (cyS (nx bl fun _ _ => j) c) x y := fun x y e => wn_same_y h.closed h.sides e
  rcases ha with ⟨rfl, h1 | h1⟩ | ⟨rfl, h1 | h1⟩ | ⟨hj, h1 | h1, h2 | h2⟩
  · subst h1
    have := sy u (b + 1)
    rw [show b + 1 - 1 = b from by omega] at this
    exact this he
  · subst h1; exact (sy u b he.symm).symm
  · subst h1
    have := sx (a + 1) v
    rw [show a + 1 - 1 = a from by omega] at this
    exact this he
  · subst h1; exact (sx a v he.symm).symm
  · subst h1; subst h2
    have := (h.diag (a + 1) (b + 1)).1
    rw [show a + 1 - 1 = a from by omega, show b + 1 - 1 = b from by omega] at this
    exact this hj (by rw [← he]; exact hj)
  · subst h1; subst h2
    have := (h.diag (a + 1) b).2
    rw [show a + 1 - 1 = a from by omega] at this
    exact (this (by rw [← he]; exact hj) hj).symm
  · subst h1; subst h2
    have := (h.diag a (b + 1)).2
    rw [show b + 1 - 1 = b from by omega] at this
    exact this hj (by rw [← he]; exact hj)
  · subst h1; subst h2
    exact ((h.diag a b).1 (by rw [← he]; exact hj) hj).symm
theorem Cyc.cn (h : Cyc (nx bl fun _ _ => j) (fun s => isS bl s = true) c.1 c.2) {W H : Int} {p q : Int × Int} (hc : Cn bl j W H p q) : wn (cyS (nx bl fun _ _ => j) c) p.1 p.2 = wn (cyS (nx bl fun _ _ => j) c) q.1 q.2 := by
  induction hc with
  | refl => rfl
  | step a b _ hab _ ih => exact ih.trans (h.adj hab)
end

/-- Does p come ahead of q? -/
def Bef (p q : Int × Int) : Prop := p.2 < q.2 ∨ (p.2 = q.2 ∧ p.1 < q.1)
section
variable {bl jn : Int → Int → Bool} {W H : Int} {c : Sd × Nat}
/-- Ahead of its first point a cycle winds round nothing. -/
theorem Canon.wn_first (hp : Pic bl W H) (h : Canon (nx bl jn) (fun s => isS bl s = true) key c) {u v : Int} (hb : Bef (u, v) (c.1.1, c.1.2.1)) : wn (cyS (nx bl jn) c) u v = 0 := by
  have hc := h.1
  have f0 := side_in hp hc.1
  have w32 := hp.w
  have pt : ∀ s ∈ cyS (nx bl jn) c, 0 ≤ s.1 ∧ (c.1.2.1 < s.2.1 ∨ (c.1.2.1 = s.2.1 ∧ c.1.1 ≤ s.1)) := fun s hs => by
    have hi := side_in hp (hc.sides s hs)
    obtain ⟨i, _, rfl⟩ := mem_cyS.1 hs
    have := h.least i
    simp only [key] at this
    omega
  have en' : ∀ s ∈ cyS (nx bl jn) c, c.1.2.1 < (en s).2 ∨ (c.1.2.1 = (en s).2 ∧ c.1.1 ≤ (en s).1) := fun s hs => by
    have := (pt (nx bl jn s) ((hc.mem_next (hc.sides s hs)).1 hs)).2
    exact this
  rcases hb with hb | ⟨hb, hx⟩
  · simp only at hb
    refine sm_zero fun s hs => ?_
    have a := (pt s hs).2
    have b := en' s hs
    obtain ⟨x, y, d⟩ := s
    unfold hw
    simp only at a ⊢
    rw [if_neg, if_neg]
    · rintro ⟨rfl, h2, _⟩; omega
    · rintro ⟨rfl, h2, _⟩
      simp only [en] at b
      omega
  · simp only at hb hx
    subst hb
    rw [← wn_left hc.closed (fun s hs => isS_lt (hc.sides s hs)) (-1) c.1.2.1 fun s hs => by have := (pt s hs).1; omega]
    refine sm_congr fun s hs => ?_
    have a := pt s hs
    have b := en' s hs
    obtain ⟨x, y, d⟩ := s
    unfold hw
    simp only at a ⊢
    by_cases h2 : d = 2 ∧ y = c.1.2.1 + 1
    · obtain ⟨rfl, rfl⟩ := h2
      simp only [en] at b
      rw [if_pos ⟨rfl, rfl, by omega⟩, if_pos ⟨rfl, rfl, by omega⟩]
    · by_cases h0 : d = 0 ∧ y = c.1.2.1
      · obtain ⟨rfl, rfl⟩ := h0
        rw [if_neg (by omega), if_pos ⟨rfl, rfl, by omega⟩, if_neg (by omega), if_pos ⟨rfl, rfl, by omega⟩]
      · rw [if_neg (by omega), if_neg (by omega), if_neg (by omega), if_neg (by omega)]
theorem Canon.dir (h : Canon (nx bl jn) (fun s => isS bl s = true) key c) : c.1.2.2 = 0 ∨ c.1.2.2 = 1 := by
  have h4 := h.1.four
  have := h.2 1 (by omega) (by omega)
  have e : it (nx bl jn) 1 c.1 = nx bl jn c.1 := rfl
  have hd := isS_lt h.1.1
  rw [e, key_nx _ _ _ hd] at this
  have : c.1.2.2 = 0 ∨ c.1.2.2 = 1 ∨ c.1.2.2 = 2 ∨ c.1.2.2 = 3 := by omega
  rcases this with h | h | h | h
  · exact .inl h
  · exact .inr h
  · rw [h] at this; simp at this; omega
  · rw [h] at this; simp at this; omega
theorem Canon.first (hp : Pic bl W H) (h : Canon (nx bl jn) (fun s => isS bl s = true) key c) :
    (c.1.2.2 = 0 → bl c.1.1 c.1.2.1 = true ∧ wn (cyS (nx bl jn) c) c.1.1 c.1.2.1 = 1 ∧ lw (cyS (nx bl jn) c) c.1 = 1) ∧ (c.1.2.2 = 1 → bl c.1.1 c.1.2.1 = false ∧ wn (cyS (nx bl jn) c) c.1.1 c.1.2.1 = -1 ∧ lw (cyS (nx bl jn) c) c.1 = 0) := by
  have hS := h.1.closed
  have ws := wn_side hS h.1.nodup h.1.sides (x := c.1.1) (y := c.1.2.1) (d := c.1.2.2) (h.1.mem 0)
  have hl : lw (cyS (nx bl jn) c) c.1 = wn (cyS (nx bl jn) c) (lpx c.1.1 c.1.2.2) (lpy c.1.2.1 c.1.2.2) := rfl
  have is := isS_lr bl c.1.1 c.1.2.1 c.1.2.2 (isS_lt h.1.1)
  rw [show (c.1.1, c.1.2.1, c.1.2.2) = c.1 from rfl, h.1.1] at is
  constructor
  · intro hd
    rw [hd] at ws hl is
    have z := h.wn_first hp (u := c.1.1 - 1) (v := c.1.2.1) (.inr ⟨rfl, by simp only; omega⟩)
    simp [lpx, lpy, rpx, rpy] at ws hl is
    rw [z] at ws
    exact ⟨is.1, by omega, by omega⟩
  · intro hd
    rw [hd] at ws hl is
    have z := h.wn_first hp (u := c.1.1) (v := c.1.2.1 - 1) (.inl (by simp only; omega))
    simp [lpx, lpy, rpx, rpy] at ws hl is
    rw [z] at ws hl
    exact ⟨is.2, by omega, hl⟩
end
end Go.Proofs.Ytljfiefobnncaaa.Qm
