/- outlinelaw: keep, of lists of shapes of any points. -/
import Derived.Test.YtljfiefobnncaaaDoorK36
namespace Go.Proofs.YtljfiefobnncaaaDoor
open Go.RowKit
attribute [local go_sem ↓] Go.wp_at_zero Go.wp_at_succ

theorem infoShpsP : (Tryd.prog.info? 67).map (fun i => (i.zero, i.size, i.bytes)) = some (some (.agg #[.slice none 0 0, .slice none 0 0, .slice none 0 0, .slice none 0 0, .int .i64 0]), 5, 104) := by kernel_rfl

set_option maxRecDepth 4000 in
set_option maxHeartbeats 2000000 in
theorem keepP_any (b : Nat) (vl : Value) (L : List (Value × List (Int × Int))) (kb N : Nat) (vp vs : Value) (P S : List Rec) (w : World) (hO : OBook kb N vp vs P S w) (hR : RowP b vl L w) (hn : ∀ p ∈ L, 0 < p.2.length) (hn2 : ∀ p ∈ L, p.2.length ≤ 1000000000) (hLn : L.length ≤ 100000000) (hN : N ≤ 1000000000)
    (hA : ∀ p ∈ L, Ap kb vp vs P S p.1) (hAl : Ap kb vp vs P S vl) :
    Calls Tryd.prog 35 #[.pointer (some ⟨kb, 0, none⟩), vl] w fun e w' => e = .returned (.bool true) ∧ ∃ N' vp' vs' P' S', OBook kb N' vp' vs' P' S' w' ∧ N' ≤ N + L.length + 1 ∧ Fr (fun k => k = kb ∨ vp.ownBlock = some k ∨ vs.ownBlock = some k ∨ vl.ownBlock = some k ∨ ∃ p ∈ L, p.1.ownBlock = some k) w w' := by
  obtain ⟨i0, hi, hz0, hz1, hz2⟩ := info_parts infoShape
  obtain ⟨ip, hip, hzp0, hzp1, hzp2⟩ := info_parts infoShpsP
  obtain ⟨ao, cap, hvl⟩ := own_len hR.row
  have K00 := hid (KIp.start (L := L) hO)
  have HR := hid hR
  have HN := hid hn
  have HN2 := hid hn2
  have HA := hid hA
  have HAL := hid hAl
  have HV := hid hvl
  obtain ⟨n, en⟩ : ∃ n, n = L.length := ⟨_, rfl⟩
  rw [hvl, ← en]
  have EN := hid en
  have nb : n ≤ 100000000 := by omega
  clear hO hR hn hn2 hA hAl hvl en hLn
  go_enter Tryd.func35, Tryd.ntmps35
  go_wp2
  go_loopw [5] (fun iv wr => ∃ (i : Nat) (vp' : Value) (P' : List Rec), i ≤ n ∧ iv = .int .i64 i ∧ Hid (KIp kb N vp vs P S L w i vp' P' wr)) (fun i _ => n - (intOf i).toNat)
  case atStart => exact ⟨0, vp, P, by omega, rfl, K00⟩
  case round =>
    clear K00
    obtain ⟨i, vp', P', hin, rfl, h⟩ := hrel
    have apl := h.out.apl HR.out HAL.out
    have row := own_fr HR.out.row h.out.fr apl.2
    have APL := hid apl.1
    have ROW := hid row
    clear apl row
    by_cases hlt : i < n
    · have hiL : i < L.length := by have := EN.out; omega
      obtain ⟨gl, capl, hv2, hcells⟩ := own_src ROW.out (by have := EN.out; omega)
      have e1 : ao = some ⟨gl, 0, none⟩ := by have := HV.out.symm.trans hv2; injection this
      subst e1
      obtain ⟨gv, capv, ev, ov, b1, b2, b3, b4⟩ := h.out.ready HR.out HN.out HA.out hiL
      have sc := (shpP_at L i hiL).1
      rw [ev] at sc
      have c := hcells _ _ sc
      rw [add_zero_at] at c
      have m2 := HN2.out _ (List.getElem_mem hiL)
      obtain ⟨m, em⟩ : ∃ m, m = L[i].2.length := ⟨_, rfl⟩
      obtain ⟨ps, eps⟩ : ∃ ps, ps = L[i].2 := ⟨_, rfl⟩
      have lps := hid (show ps.length = m by rw [eps, em])
      rw [← em] at c ov m2
      rw [← eps] at ov
      have HG := hid (show L[i].1.ownBlock = some gv by rw [ev]; rfl)
      have OV := hid ov
      have B4 := hid b4
      have i0' : (0 : Int) ≤ (i : Nat) := by omega
      have i1' : ((i : Nat) : Int) < (n : Nat) := by omega
      clear hv2 hcells ev ov b4 sc em eps
      go_wp2_with fail
      refine (mine_any kb (N + i) vp' vs P' S gv m capv ps _ h.out.ob OV.out lps.out (by omega) m2 b1 b2 b3 B4.out).mono ?_
      rintro e w2 ⟨rfl, vp2, r, ho, hf, hv, hr⟩
      have NX := hid (h.out.step hiL HG.out ho hf hv hr)
      clear ho hf hv hr
      go_wp2
      go_roundw
      case rel => exact ⟨i + 1, vp2, P' ++ [r], by omega, by go_num, NX⟩
      case measure => simp [intOf]; omega
    · have hk' : ((n : Nat) : Int) ≤ (i : Nat) := by omega
      have ei : i = n := by omega
      go_wp2_with fail
      refine (looks_any kb _ vp' vs P' S _ h.out.ob.book).mono ?_
      rintro e w1 ⟨rfl, bl⟩
      have OB := hid (h.out.ob.below bl)
      have R1 := hid (own_below ROW.out bl)
      have FR := hid (show Fr (fun k => k = kb ∨ vp.ownBlock = some k ∨ ∃ p ∈ L, p.1.ownBlock = some k) w w1 from (h.out.fr.imp (fun k _ hk => hk.imp id (fun hk => hk.imp id (fun ⟨p, hp, e⟩ => ⟨p, List.mem_of_mem_take hp, e⟩)))).trans (Fr.below bl))
      have VPB := hid h.out.vpb
      rw [shpP_pair] at R1
      obtain ⟨l0, el0⟩ : ∃ l0, l0 = L.map (fun p => (p.1, Qm.twiceOf p.2)) := ⟨_, rfl⟩
      rw [← el0, ← EN.out] at R1
      have LL := hid (show l0.length = n by rw [el0, List.length_map, EN.out])
      rw [HV.out, ← EN.out] at R1 APL
      obtain ⟨M, eM⟩ : ∃ M, M = N + i := ⟨_, rfl⟩
      rw [← eM] at OB
      have hM : M ≤ 1100000000 := by omega
      have EM := hid eM
      clear bl h ROW el0 eM
      obtain ⟨kz, c0, c1, c2, fz⟩ := (show KB kb M vp' vs w1 from ⟨OB.out.lt, OB.out.c0, OB.out.c1, OB.out.c2, OB.out.fz⟩)
      have f0 := fz 0
      obtain ⟨mk, hmk⟩ : ∃ mk : Int, (1000 : Int) + ((M : Int) + 1) = mk := ⟨_, rfl⟩
      have mk1 : 0 ≤ mk ∧ mk ≤ 4000000000 := by omega
      have VKB := hid (show (Value.slice ao n cap).ownBlock ≠ some kb from fun e => (APL.out kb e).1 rfl)
      go_wp2
      have K0 : KB kb (M + 1) vp' vs (w1.setCell ⟨kb, 0, none⟩ (.int .i64 ((M : Int) + 1))) := KB.set0 (N := M) ⟨kz, c0, c1, c2, fz⟩ (M + 1)
      have HK0 := hid K0
      have VLT0 := hid (show ∀ k, (Value.slice ao n cap).ownBlock = some k → k < w1.heap.size from fun k hk => (R1.out.lt k hk).2)
      have hO0 := hid (show (w1.setCell ⟨kb, 0, none⟩ (.int .i64 ((M : Int) + 1))).ownsRow 0 81 2 (.slice ao n cap) n (pairV (fillP l0 (nilS, mk) 0)) by
        have := own_fr (C := fun k => k = kb) R1.out (w' := (w1.setCell ⟨kb, 0, none⟩ (.int .i64 ((M : Int) + 1)))) (Fr.set rfl) (fun k hk hc => by subst hc; exact VKB.out hk)
        have := this.mono (base' := 0) (Nat.zero_le _)
        simpa [fillP] using this)
      clear K0
      go_loopw [7] (fun iv wr => ∃ i : Nat, i ≤ n ∧ iv = .int .i64 i ∧ Hid (wr.ownsRow 0 81 2 (.slice ao n cap) n (pairV (fillP l0 (nilS, mk) i))) ∧ Hid (Fr (fun k => k = kb ∨ (Value.slice ao n cap).ownBlock = some k) w1 wr) ∧ Hid (KB kb (M + 1) vp' vs wr)) (fun i _ => n - (intOf i).toNat)
      case atStart => exact ⟨0, by omega, rfl, hO0, Fr.set (.inl rfl), HK0⟩
      case round =>
        clear hO0 HK0 c0 c1 c2 f0 fz
        obtain ⟨i, hin, rfl, ho, hf, hK⟩ := hrel
        obtain ⟨kz', c0, c1, c2, fz⟩ := hK.out
        have c0' : wr.cell? ⟨kb, 0, none⟩ = some (.int .i64 ((M : Int) + 1)) := c0
        clear c0
        by_cases hlt : i < n
        · have lf := fillP_len l0 (nilS, mk) i (by rw [LL.out]; omega)
          obtain ⟨gl, capl, hv2, _⟩ := own_src ho.out (by omega)
          have e1 : ao = some ⟨gl, 0, none⟩ := by injection hv2
          subst e1
          have pa := pairV_at (nilS, mk) (fillP l0 (nilS, mk) i) i (by rw [lf, LL.out]; exact hlt)
          have q0 := ho.out.cells (g := gl) rfl _ _ pa.1
          have q1 := ho.out.cells (g := gl) rfl _ _ pa.2
          rw [add_zero_at] at q0 q1
          have r0 := own_frozen ho.out (i * 2)
          have r1 := own_frozen ho.out (i * 2 + 1)
          have o2 := own_set (own_set ho.out (i * 2) nilS) (i * 2 + 1) (.int .i64 mk)
          rw [pairV_set _ (nilS, mk) i (by rw [lf, LL.out]; exact hlt), fillP_succ _ _ _ (by rw [LL.out]; exact hlt)] at o2
          have O2 := hid o2
          have i0' : (0 : Int) ≤ (i : Nat) := by omega
          have i1' : ((i : Nat) : Int) < (n : Nat) := by omega
          have nbk : gl ≠ kb := fun e => VKB.out (by rw [e]; rfl)
          clear pa lf o2 fz hv2
          go_wp2
          go_roundw
          case rel => exact ⟨i + 1, by omega, by go_num, O2, hf.out.trans ((Fr.set (.inr rfl)).trans (Fr.set (.inr rfl))), (hK.out.set _ nbk).set _ nbk⟩
          case measure => simp [intOf]; omega
        · have hk'' : ((n : Nat) : Int) ≤ (i : Nat) := by omega
          have ho2 := ho.out
          rw [show i = n by omega, show fillP l0 (nilS, mk) n = List.replicate n (nilS, mk) by unfold fillP; rw [List.drop_eq_nil_of_le (by rw [LL.out]; exact Nat.le_refl _), List.append_nil]] at ho2
          have HO2 := hid ho2
          have zf := hf.out.size
          have VLT := hid (show ∀ k, (Value.slice ao n cap).ownBlock = some k → k < wr.heap.size from fun k hk => Nat.lt_of_lt_of_le (VLT0.out k hk) zf)
          clear ho2 ho fz
          obtain ⟨X, hX⟩ : ∃ X, X = wr.alloc (.cells #[nilS, .int .i64 mk] 81) := ⟨_, rfl⟩
          have xs : X.heap.size = wr.heap.size + 1 := by rw [hX]; simp
          have x0 : X.cell? ⟨wr.heap.size, 0, none⟩ = some nilS := by rw [hX]; simp
          have x1 : X.cell? ⟨wr.heap.size, 1, none⟩ = some (.int .i64 mk) := by rw [hX]; simp
          have OX := hid (show X.ownsRow 0 81 2 (.slice ao n cap) n (pairV (List.replicate n (nilS, mk))) by rw [hX]; exact HO2.out.alloc _)
          have KX := hid (show KB kb (M + 1) vp' vs X by rw [hX]; exact hK.out.of (Below.heap_alloc _ _ _ kz') (by simp))
          have FX := hid (show Fr (fun k => k = kb ∨ (Value.slice ao n cap).ownBlock = some k) w1 X by rw [hX]; exact hf.out.trans (Fr.below ((Below.refl _ _).alloc (Nat.le_refl _) _)))
          have XS := hid xs
          have HX := hid hX
          clear xs hX
          go_wp2_with (first
            | (at_builtin; rw [← HX.out]; refine wpList_append_keeps rfl _ _ 35 rfl 0 81 i0 (.agg #[.slice none 0 0, .int .i64 0]) 2 32 Tryd.underlying35 hi hz0 hz1 hz2 rfl (by decide) _ _ _ rfl (OX.out.alloc _) ⟨_, 0, none⟩ 1 1 [nilS, .int .i64 mk] rfl rfl (new_at _ _ _ _ (by first | rfl | exact XS.out.symm)) (markS_one mk 1) (by unfold maxLen; omega) (by omega) (Nat.zero_le _) ?_))
          intro v1 y1 O1 G1 A1 V1 H1
          have z1 : X.heap.size < y1.heap.size := by have := G1.out.size; simp at this; omega
          have K1 := hid ((KB.of KX.out (w' := X.alloc _) (Below.heap_alloc _ (.cells #[nilS, .int .i64 mk] 81) _ KX.out.1) (by simp)).gb G1.out VKB.out)
          have F1 := hid (show Fr (fun k => k = kb ∨ (Value.slice ao n cap).ownBlock = some k) w1 y1 from FX.out.trans ((Fr.below ((Below.refl _ _).alloc (Nat.le_refl _) (.cells #[nilS, .int .i64 mk] 81))).trans (Fr.grown G1.out (fun q hq _ => .inr hq))))
          have x01 : y1.cell? ⟨wr.heap.size, 0, none⟩ = some nilS := (World.cell?_of_block (a := ⟨wr.heap.size, 0, none⟩) (G1.out.block wr.heap.size (by simp; have := XS.out; omega) (fun e => by have := VLT.out _ e.symm; omega))).trans ((World.cell?_of_block (a := ⟨wr.heap.size, 0, none⟩) (Below.heap_alloc X _ _ (by have := XS.out; show wr.heap.size < _; omega))).trans x0)
          have x11 : y1.cell? ⟨wr.heap.size, 1, none⟩ = some (.int .i64 mk) := (World.cell?_of_block (a := ⟨wr.heap.size, 1, none⟩) (G1.out.block wr.heap.size (by simp; have := XS.out; omega) (fun e => by have := VLT.out _ e.symm; omega))).trans ((World.cell?_of_block (a := ⟨wr.heap.size, 1, none⟩) (Below.heap_alloc X _ _ (by have := XS.out; show wr.heap.size < _; omega))).trans x1)
          obtain ⟨g1, cap1, hv1, _⟩ := own_src O1.out (by omega)
          subst hv1
          have M1 := hid (own_mkS (n := n + 1) (mark := mk) (by rw [markS_app]; exact O1.out))
          clear HX
          go_wp2_with (first
            | (at_builtin; refine wpList_append_keeps rfl _ _ 35 rfl 0 81 i0 (.agg #[.slice none 0 0, .int .i64 0]) 2 32 Tryd.underlying35 hi hz0 hz1 hz2 rfl (by decide) _ _ _ rfl (V1.out.alloc _) ⟨_, 0, none⟩ 2 2 [nilS, .int .i64 mk, nilS, .int .i64 mk] rfl rfl (new_at _ _ _ _ (by first | rfl | exact XS.out.symm)) (markS_one mk 2) (by unfold maxLen; omega) (by omega) (Nat.zero_le _) ?_))
          intro v2 y2 O2 G2 A2 V2 H2
          have z2 : y1.heap.size < y2.heap.size := by have := G2.out.size; simp at this; omega
          have K2 := hid ((KB.of K1.out (w' := y1.alloc _) (Below.heap_alloc _ (.cells #[nilS, .int .i64 mk, nilS, .int .i64 mk] 81) _ K1.out.1) (by simp)).gb G2.out VKB.out)
          have F2 := hid (show Fr (fun k => k = kb ∨ (Value.slice ao n cap).ownBlock = some k) w1 y2 from F1.out.trans ((Fr.below ((Below.refl _ _).alloc (Nat.le_refl _) (.cells #[nilS, .int .i64 mk, nilS, .int .i64 mk] 81))).trans (Fr.grown G2.out (fun q hq _ => .inr hq))))
          have x02 : y2.cell? ⟨wr.heap.size, 0, none⟩ = some nilS := (World.cell?_of_block (a := ⟨wr.heap.size, 0, none⟩) (G2.out.block wr.heap.size (by simp; have := XS.out; omega) (fun e => by have := VLT.out _ e.symm; omega))).trans ((World.cell?_of_block (a := ⟨wr.heap.size, 0, none⟩) (Below.heap_alloc y1 _ _ (by have := XS.out; show wr.heap.size < _; omega))).trans x01)
          have x12 : y2.cell? ⟨wr.heap.size, 1, none⟩ = some (.int .i64 mk) := (World.cell?_of_block (a := ⟨wr.heap.size, 1, none⟩) (G2.out.block wr.heap.size (by simp; have := XS.out; omega) (fun e => by have := VLT.out _ e.symm; omega))).trans ((World.cell?_of_block (a := ⟨wr.heap.size, 1, none⟩) (Below.heap_alloc y1 _ _ (by have := XS.out; show wr.heap.size < _; omega))).trans x11)
          obtain ⟨g2, cap2, hv2, _⟩ := own_src O2.out (by omega)
          subst hv2
          have M2 := hid (own_mkS (n := n + 2) (mark := mk) (by rw [markS_app]; exact O2.out))
          go_wp2_with (first
            | (at_builtin; refine wpList_append_keeps rfl _ _ 35 rfl 0 81 i0 (.agg #[.slice none 0 0, .int .i64 0]) 2 32 Tryd.underlying35 hi hz0 hz1 hz2 rfl (by decide) _ _ _ rfl (V2.out.alloc _) ⟨_, 0, none⟩ 3 3 [nilS, .int .i64 mk, nilS, .int .i64 mk, nilS, .int .i64 mk] rfl rfl (new_at _ _ _ _ (by first | rfl | exact XS.out.symm)) (markS_one mk 3) (by unfold maxLen; omega) (by omega) (Nat.zero_le _) ?_))
          intro v3 y3 O3 G3 A3 V3 H3
          have z3 : y2.heap.size < y3.heap.size := by have := G3.out.size; simp at this; omega
          have K3 := hid ((KB.of K2.out (w' := y2.alloc _) (Below.heap_alloc _ (.cells #[nilS, .int .i64 mk, nilS, .int .i64 mk, nilS, .int .i64 mk] 81) _ K2.out.1) (by simp)).gb G3.out VKB.out)
          have F3 := hid (show Fr (fun k => k = kb ∨ (Value.slice ao n cap).ownBlock = some k) w1 y3 from F2.out.trans ((Fr.below ((Below.refl _ _).alloc (Nat.le_refl _) (.cells #[nilS, .int .i64 mk, nilS, .int .i64 mk, nilS, .int .i64 mk] 81))).trans (Fr.grown G3.out (fun q hq _ => .inr hq))))
          have x03 : y3.cell? ⟨wr.heap.size, 0, none⟩ = some nilS := (World.cell?_of_block (a := ⟨wr.heap.size, 0, none⟩) (G3.out.block wr.heap.size (by simp; have := XS.out; omega) (fun e => by have := VLT.out _ e.symm; omega))).trans ((World.cell?_of_block (a := ⟨wr.heap.size, 0, none⟩) (Below.heap_alloc y2 _ _ (by have := XS.out; show wr.heap.size < _; omega))).trans x02)
          have x13 : y3.cell? ⟨wr.heap.size, 1, none⟩ = some (.int .i64 mk) := (World.cell?_of_block (a := ⟨wr.heap.size, 1, none⟩) (G3.out.block wr.heap.size (by simp; have := XS.out; omega) (fun e => by have := VLT.out _ e.symm; omega))).trans ((World.cell?_of_block (a := ⟨wr.heap.size, 1, none⟩) (Below.heap_alloc y2 _ _ (by have := XS.out; show wr.heap.size < _; omega))).trans x12)
          obtain ⟨g3, cap3, hv3, _⟩ := own_src O3.out (by omega)
          subst hv3
          have M3 := hid (own_mkS (n := n + 3) (mark := mk) (by rw [markS_app]; exact O3.out))
          have M23 := hid (Mk.appS (n := n) (m := 3) (M2.out.call ((Below.refl _ _).alloc (Nat.le_refl _) _)) G3.out H3.out)
          have M12 := hid (Mk.appS (n := n) (m := 2) (M1.out.call ((Below.refl _ _).alloc (Nat.le_refl _) _)) G2.out H2.out)
          have M13 := hid (Mk.appS (n := n) (m := 3) (M12.out.call ((Below.refl _ _).alloc (Nat.le_refl _) _)) G3.out H3.out)
          have M03 := hid (own_mkS V3.out)
          have hOP := own_fr OB.out.so F3.out (fun k hk => by
            intro hc
            rcases hc with hc | hc
            · subst hc; exact OB.out.a2 hk
            · exact (APL.out k hc).2.2.1 hk)
          have OP := hid hOP
          obtain ⟨kz3, e0, e1, e2, ef⟩ := K3.out
          have e0' : y3.cell? ⟨kb, 0, none⟩ = some (.int .i64 ((M : Int) + 1)) := e0
          have few := OB.out.few
          have n1 : S.length + 1 ≤ maxLen := by unfold maxLen; omega
          have n2 : (S.length + 1) * 104 ≤ 140737488355328 := by omega
          have wm : IntKind.i64.wrap mk = mk := by rw [IntKind.wrap_i64]; omega
          clear hOP e0 ef c0' c1 c2 x0 x1 x01 x11 x02 x12 x03 x13
          go_wp2_with fail
          go_region_law
            ((refine step_append_lies _ (by rfl) _ _ _ (by rfl) 0 67 ip (.agg #[.slice none 0 0, .slice none 0 0, .slice none 0 0, .slice none 0 0, .int .i64 0]) 5 104 Tryd.underlying38 hip hzp0 hzp1 hzp2 rfl (by omega) vs S.length (recsV S) (by rfl) ((OP.out.alloc _).drew) ⟨y3.heap.size, 0, none⟩ 1 1 [.slice ao n cap, .slice (some ⟨g1, 0, none⟩) (n + 1) cap1, .slice (some ⟨g2, 0, none⟩) (n + 2) cap2, .slice (some ⟨g3, 0, none⟩) (n + 3) cap3, .int .i64 mk] (by rfl) (by rfl) (World.news_of_block (cs := #[.slice ao n cap, .slice (some ⟨g1, 0, none⟩) (n + 1) cap1, .slice (some ⟨g2, 0, none⟩) (n + 2) cap2, .slice (some ⟨g3, 0, none⟩) (n + 3) cap3, .int .i64 mk]) (t := 67) (fr := (0, 0)) (heap_alloc_new y3 _)) (by simp [Value.oneCell']) (by omega) n1 n2 (Nat.zero_le _) (y3.heap.size + 1) (by simp) ?_; intro gg capg w4 O4 G4 A4 hlt4; have K4 := hid (show KB kb (M + 1) vp' vs w4 from ((K3.out.of (w' := y3.alloc _) (Below.heap_alloc _ (.cells #[.slice ao n cap, .slice (some ⟨g1, 0, none⟩) (n + 1) cap1, .slice (some ⟨g2, 0, none⟩) (n + 2) cap2, .slice (some ⟨g3, 0, none⟩) (n + 3) cap3, .int .i64 mk] 67) _ K3.out.1) (by simp)).of (w' := (y3.alloc _).drew) rfl (Nat.le_refl _)).gb G4 OB.out.a2); have k42 := K4.out.2.2.2.1; have k4f := K4.out.2.2.2.2 2))
          all_goals go_wp2
          all_goals go_ret
          all_goals
            have e1 : (Value.slice ao n cap).ownBlock = some g1 ∨ w1.heap.size ≤ g1 := by
              rcases A1.out with h | h
              · left; rw [← h]; rfl
              · right; simp [Value.ownBlock] at h; have := XS.out; omega
            have e2 : (Value.slice ao n cap).ownBlock = some g2 ∨ w1.heap.size ≤ g2 := by
              rcases A2.out with h | h
              · left; rw [← h]; rfl
              · right; simp [Value.ownBlock] at h; have := XS.out; omega
            have e3 : (Value.slice ao n cap).ownBlock = some g3 ∨ w1.heap.size ≤ g3 := by
              rcases A3.out with h | h
              · left; rw [← h]; rfl
              · right; simp [Value.ownBlock] at h; have := XS.out; omega
            have l1 := (O1.out.lt g1 rfl).2
            have l2 := (O2.out.lt g2 rfl).2
            have l3 := (O3.out.lt g3 rfl).2
            obtain ⟨vs', r, hob, hfr, _⟩ := keep_done (v := .slice ao n cap) (r := ⟨.slice ao n cap, .slice (some ⟨g1, 0, none⟩) (n + 1) cap1, .slice (some ⟨g2, 0, none⟩) (n + 2) cap2, .slice (some ⟨g3, 0, none⟩) (n + 3) cap3, mk⟩) OB.out APL.out F3.out (by
              intro u hu
              simp only [Rec.all, List.mem_cons, List.not_mem_nil, or_false] at hu
              rcases hu with rfl | rfl | rfl | rfl
              · exact M03.out
              · exact M13.out
              · exact M23.out
              · exact M3.out) (by
              intro u hu k hk
              simp only [Rec.all, List.mem_cons, List.not_mem_nil, or_false] at hu
              rcases hu with rfl | rfl | rfl | rfl
              · exact ⟨.inl hk, by have := VLT.out k hk; have := XS.out; omega⟩
              · simp only [Value.ownBlock, Option.some.injEq] at hk; subst hk; exact ⟨e1, by omega⟩
              · simp only [Value.ownBlock, Option.some.injEq] at hk; subst hk; exact ⟨e2, by omega⟩
              · simp only [Value.ownBlock, Option.some.injEq] at hk; subst hk; exact ⟨e3, by omega⟩) O4 G4 A4 K4.out
            refine ⟨rfl, M + 1, vp', vs', P', S ++ [r], hob, by have := EM.out; have := EN.out; omega, (FR.out.imp ?_).trans (hfr.imp ?_)⟩
            · intro k _ hk
              rcases hk with hk | hk | hk
              · exact .inl hk
              · exact .inr (.inl hk)
              · exact .inr (.inr (.inr (.inr hk)))
            · intro k _ hk
              rcases hk with hk | hk | hk
              · exact .inl hk
              · exact .inr (.inr (.inl hk))
              · exact .inr (.inr (.inr (.inl hk)))
end Go.Proofs.YtljfiefobnncaaaDoor
