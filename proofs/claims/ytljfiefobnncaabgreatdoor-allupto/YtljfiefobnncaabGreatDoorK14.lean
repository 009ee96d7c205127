import Derived.Test.YtljfiefobnncaabGreatDoorK08
import Derived.Test.YtljfiefobnncaabGreatDoorK13
import Derived.Test.YtljfiefobnncaabGreatDoorK04

/- outlinelaw: keep, walked. -/
namespace Go.Proofs.YtljfiefobnncaabGreatDoor
open Go.RowKit
attribute [local go_sem ↓] Go.wp_at_zero Go.wp_at_succ

theorem infoShps : (Tryz.prog.info? 48).map (fun i => (i.zero, i.size, i.bytes)) = some (some (.agg #[.slice none 0 0, .slice none 0 0, .slice none 0 0, .slice none 0 0, .int .i64 0]), 5, 104) := by kernel_rfl

set_option maxRecDepth 4000 in
set_option maxHeartbeats 2000000 in
theorem keep_any (f : Qm.Sd → Qm.Sd) (b : Nat) (vl : Value) (L : List (Value × (Qm.Sd × Nat))) (kb N : Nat) (vp vs : Value) (P S : List Rec) (w : World) (hO : OBook kb N vp vs P S w) (hR : Rowed f b vl L w) (hn : ∀ p ∈ L, 0 < p.2.2) (hn2 : ∀ p ∈ L, p.2.2 ≤ 1000000) (hLn : L.length ≤ 1200) (hN : N ≤ 500000)
    (hA : ∀ p ∈ L, Ap kb vp vs P S p.1) (hAl : Ap kb vp vs P S vl) :
    Calls Tryz.prog 22 #[.pointer (some ⟨kb, 0, none⟩), vl] w fun e w' => e = .returned (.bool true) ∧ ∃ N' vp' vs' P' S', OBook kb N' vp' vs' P' S' w' ∧ N' ≤ N + L.length + 1 ∧ Fr (fun k => k = kb ∨ vp.ownBlock = some k ∨ vs.ownBlock = some k ∨ vl.ownBlock = some k ∨ ∃ p ∈ L, p.1.ownBlock = some k) w w' := by
  obtain ⟨i0, hi, hz0, hz1, hz2⟩ := info_parts infoShape
  obtain ⟨ip, hip, hzp0, hzp1, hzp2⟩ := info_parts infoShps
  obtain ⟨ao, cap, hvl⟩ := own_len hR.row
  have K00 := hid (KI.start (L := L) hO)
  have HR := hid hR
  have HN := hid hn
  have HN2 := hid hn2
  have HA := hid hA
  have HAL := hid hAl
  have HV := hid hvl
  obtain ⟨n, en⟩ : ∃ n, n = L.length := ⟨_, rfl⟩
  rw [hvl, ← en]
  have EN := hid en
  have nb : n ≤ 1200 := by omega
  clear hO hR hn hn2 hA hAl hvl en hLn
  go_enter Tryz.func22, Tryz.ntmps22
  go_wp2
  go_loopw [5] (fun iv wr => ∃ (i : Nat) (vp' : Value) (P' : List Rec), i ≤ n ∧ iv = .int .i64 i ∧ Hid (KI kb N vp vs P S L w i vp' P' wr)) (fun i _ => n - (intOf i).toNat)
  case atStart => exact ⟨0, vp, P, by omega, rfl, K00⟩
  case round =>
    clear K00
    obtain ⟨i, vp', P', hin, rfl, h⟩ := hrel
    have apl := h.out.apl HR.out HAL.out
    have row := own_fr HR.out.row h.out.fr apl.2
    have APL := hid apl.1
    have ROW := hid row
    clear apl row
    by_cases hlt : i < n
    · have hiL : i < L.length := by have := EN.out; omega
      obtain ⟨gl, capl, hv2, hcells⟩ := own_src ROW.out (by have := EN.out; omega)
      have e1 : ao = some ⟨gl, 0, none⟩ := by have := HV.out.symm.trans hv2; injection this
      subst e1
      obtain ⟨gv, capv, ev, ov, b1, b2, b3, b4⟩ := h.out.ready HR.out HN.out HA.out hiL
      have sc := (shpV_at f L i hiL).1
      rw [ev] at sc
      have c := hcells _ _ sc
      rw [add_zero_at] at c
      have m2 := HN2.out _ (List.getElem_mem hiL)
      obtain ⟨m, em⟩ : ∃ m, m = L[i].2.2 := ⟨_, rfl⟩
      obtain ⟨ps, eps⟩ : ∃ ps, ps = Qm.ptsOf f L[i].2 := ⟨_, rfl⟩
      have lps := hid (show ps.length = m by rw [eps, em, Qm.ptsOf_len])
      rw [← em] at c ov m2
      rw [← eps] at ov
      have HG := hid (show L[i].1.ownBlock = some gv by rw [ev]; rfl)
      have OV := hid ov
      have B4 := hid b4
      have i0' : (0 : Int) ≤ (i : Nat) := by omega
      have i1' : ((i : Nat) : Int) < (n : Nat) := by omega
      clear hv2 hcells ev ov b4 sc em eps
      go_wp2_with fail
      refine (mine_any kb (N + i) vp' vs P' S gv m capv ps _ h.out.ob OV.out lps.out (by omega) (by omega) b1 b2 b3 B4.out).mono ?_
      rintro e w2 ⟨rfl, vp2, r, ho, hf, hv, hr⟩
      have NX := hid (h.out.step hiL HG.out ho hf hv hr)
      clear ho hf hv hr
      go_wp2
      go_roundw
      case rel => exact ⟨i + 1, vp2, P' ++ [r], by omega, by go_num, NX⟩
      case measure => simp [intOf]; omega
    · have hk' : ((n : Nat) : Int) ≤ (i : Nat) := by omega
      have ei : i = n := by omega
      go_wp2_with fail
      refine (looks_any kb _ vp' vs P' S _ h.out.ob.book).mono ?_
      rintro e w1 ⟨rfl, bl⟩
      have OB := hid (h.out.ob.below bl)
      have R1 := hid (own_below ROW.out bl)
      have FR := hid (show Fr (fun k => k = kb ∨ vp.ownBlock = some k ∨ ∃ p ∈ L, p.1.ownBlock = some k) w w1 from (h.out.fr.imp (fun k _ hk => hk.imp id (fun hk => hk.imp id (fun ⟨p, hp, e⟩ => ⟨p, List.mem_of_mem_take hp, e⟩)))).trans (Fr.below bl))
      have VPB := hid h.out.vpb
      rw [shpV_pair] at R1
      obtain ⟨l0, el0⟩ : ∃ l0, l0 = L.map (fun p => (p.1, Qm.twiceOf (Qm.ptsOf f p.2))) := ⟨_, rfl⟩
      rw [← el0, ← EN.out] at R1
      have LL := hid (show l0.length = n by rw [el0, List.length_map, EN.out])
      rw [HV.out, ← EN.out] at R1 APL
      obtain ⟨M, eM⟩ : ∃ M, M = N + i := ⟨_, rfl⟩
      rw [← eM] at OB
      have hM : M ≤ 600000 := by omega
      have EM := hid eM
      clear bl h ROW el0 eM
      obtain ⟨kz, c0, c1, c2, fz⟩ := (show KB kb M vp' vs w1 from ⟨OB.out.lt, OB.out.c0, OB.out.c1, OB.out.c2, OB.out.fz⟩)
      have f0 := fz 0
      obtain ⟨mk, hmk⟩ : ∃ mk : Int, (1000 : Int) + ((M : Int) + 1) = mk := ⟨_, rfl⟩
      have mk1 : 0 ≤ mk ∧ mk ≤ 2000000 := by omega
      have VKB := hid (show (Value.slice ao n cap).ownBlock ≠ some kb from fun e => (APL.out kb e).1 rfl)
      go_wp2
      have K0 : KB kb (M + 1) vp' vs (w1.setCell ⟨kb, 0, none⟩ (.int .i64 ((M : Int) + 1))) := KB.set0 (N := M) ⟨kz, c0, c1, c2, fz⟩ (M + 1)
      have HK0 := hid K0
      have VLT0 := hid (show ∀ k, (Value.slice ao n cap).ownBlock = some k → k < w1.heap.size from fun k hk => (R1.out.lt k hk).2)
      have hO0 := hid (show (w1.setCell ⟨kb, 0, none⟩ (.int .i64 ((M : Int) + 1))).ownsRow 0 67 2 (.slice ao n cap) n (pairV (fillP l0 (nilS, mk) 0)) by
        have := own_fr (C := fun k => k = kb) R1.out (w' := (w1.setCell ⟨kb, 0, none⟩ (.int .i64 ((M : Int) + 1)))) (Fr.set rfl) (fun k hk hc => by subst hc; exact VKB.out hk)
        have := this.mono (base' := 0) (Nat.zero_le _)
        simpa [fillP] using this)
      clear K0
      go_loopw [7] (fun iv wr => ∃ i : Nat, i ≤ n ∧ iv = .int .i64 i ∧ Hid (wr.ownsRow 0 67 2 (.slice ao n cap) n (pairV (fillP l0 (nilS, mk) i))) ∧ Hid (Fr (fun k => k = kb ∨ (Value.slice ao n cap).ownBlock = some k) w1 wr) ∧ Hid (KB kb (M + 1) vp' vs wr)) (fun i _ => n - (intOf i).toNat)
      case atStart => exact ⟨0, by omega, rfl, hO0, Fr.set (.inl rfl), HK0⟩
      case round =>
        clear hO0 HK0 c0 c1 c2 f0 fz
        obtain ⟨i, hin, rfl, ho, hf, hK⟩ := hrel
        obtain ⟨kz', c0, c1, c2, fz⟩ := hK.out
        have c0' : wr.cell? ⟨kb, 0, none⟩ = some (.int .i64 ((M : Int) + 1)) := c0
        clear c0
        by_cases hlt : i < n
        · have lf := fillP_len l0 (nilS, mk) i (by rw [LL.out]; omega)
          obtain ⟨gl, capl, hv2, _⟩ := own_src ho.out (by omega)
          have e1 : ao = some ⟨gl, 0, none⟩ := by injection hv2
          subst e1
          have pa := pairV_at (nilS, mk) (fillP l0 (nilS, mk) i) i (by rw [lf, LL.out]; exact hlt)
          have q0 := ho.out.cells (g := gl) rfl _ _ pa.1
          have q1 := ho.out.cells (g := gl) rfl _ _ pa.2
          rw [add_zero_at] at q0 q1
          have r0 := own_frozen ho.out (i * 2)
          have r1 := own_frozen ho.out (i * 2 + 1)
          have o2 := own_set (own_set ho.out (i * 2) nilS) (i * 2 + 1) (.int .i64 mk)
          rw [pairV_set _ (nilS, mk) i (by rw [lf, LL.out]; exact hlt), fillP_succ _ _ _ (by rw [LL.out]; exact hlt)] at o2
          have O2 := hid o2
          have i0' : (0 : Int) ≤ (i : Nat) := by omega
          have i1' : ((i : Nat) : Int) < (n : Nat) := by omega
          have nbk : gl ≠ kb := fun e => VKB.out (by rw [e]; rfl)
          clear pa lf o2 fz hv2
          go_wp2
          go_roundw
          case rel => exact ⟨i + 1, by omega, by go_num, O2, hf.out.trans ((Fr.set (.inr rfl)).trans (Fr.set (.inr rfl))), (hK.out.set _ nbk).set _ nbk⟩
          case measure => simp [intOf]; omega
        · have hk'' : ((n : Nat) : Int) ≤ (i : Nat) := by omega
          have ho2 := ho.out
          rw [show i = n by omega, show fillP l0 (nilS, mk) n = List.replicate n (nilS, mk) by unfold fillP; rw [List.drop_eq_nil_of_le (by rw [LL.out]; exact Nat.le_refl _), List.append_nil]] at ho2
          have HO2 := hid ho2
          have zf := hf.out.size
          have VLT := hid (show ∀ k, (Value.slice ao n cap).ownBlock = some k → k < wr.heap.size from fun k hk => Nat.lt_of_lt_of_le (VLT0.out k hk) zf)
          clear ho2 ho fz
          obtain ⟨X, hX⟩ : ∃ X, X = wr.alloc (.cells #[nilS, .int .i64 mk] 67) := ⟨_, rfl⟩
          have xs : X.heap.size = wr.heap.size + 1 := by rw [hX]; simp
          have x0 : X.cell? ⟨wr.heap.size, 0, none⟩ = some nilS := by rw [hX]; simp
          have x1 : X.cell? ⟨wr.heap.size, 1, none⟩ = some (.int .i64 mk) := by rw [hX]; simp
          have OX := hid (show X.ownsRow 0 67 2 (.slice ao n cap) n (pairV (List.replicate n (nilS, mk))) by rw [hX]; exact HO2.out.alloc _)
          have KX := hid (show KB kb (M + 1) vp' vs X by rw [hX]; exact hK.out.of (Below.heap_alloc _ _ _ kz') (by simp))
          have FX := hid (show Fr (fun k => k = kb ∨ (Value.slice ao n cap).ownBlock = some k) w1 X by rw [hX]; exact hf.out.trans (Fr.below ((Below.refl _ _).alloc (Nat.le_refl _) _)))
          have XS := hid xs
          have HX := hid hX
          clear xs hX
          go_wp2_with (first
            | (at_builtin; rw [← HX.out]; refine wpList_append_keeps rfl _ _ 33 rfl 0 67 i0 (.agg #[.slice none 0 0, .int .i64 0]) 2 32 Tryz.underlying33 hi hz0 hz1 hz2 rfl (by decide) _ _ _ rfl (OX.out.alloc _) ⟨_, 0, none⟩ 1 1 [nilS, .int .i64 mk] rfl rfl (new_at _ _ _ _ (by first | rfl | exact XS.out.symm)) (markS_one mk 1) (by unfold maxLen; omega) (by omega) (Nat.zero_le _) ?_))
          intro v1 y1 O1 G1 A1 V1 H1
          have z1 : X.heap.size < y1.heap.size := by have := G1.out.size; simp at this; omega
          have K1 := hid ((KB.of KX.out (w' := X.alloc _) (Below.heap_alloc _ (.cells #[nilS, .int .i64 mk] 67) _ KX.out.1) (by simp)).gb G1.out VKB.out)
          have F1 := hid (show Fr (fun k => k = kb ∨ (Value.slice ao n cap).ownBlock = some k) w1 y1 from FX.out.trans ((Fr.below ((Below.refl _ _).alloc (Nat.le_refl _) (.cells #[nilS, .int .i64 mk] 67))).trans (Fr.grown G1.out (fun q hq _ => .inr hq))))
          have x01 : y1.cell? ⟨wr.heap.size, 0, none⟩ = some nilS := (World.cell?_of_block (a := ⟨wr.heap.size, 0, none⟩) (G1.out.block wr.heap.size (by simp; have := XS.out; omega) (fun e => by have := VLT.out _ e.symm; omega))).trans ((World.cell?_of_block (a := ⟨wr.heap.size, 0, none⟩) (Below.heap_alloc X _ _ (by have := XS.out; show wr.heap.size < _; omega))).trans x0)
          have x11 : y1.cell? ⟨wr.heap.size, 1, none⟩ = some (.int .i64 mk) := (World.cell?_of_block (a := ⟨wr.heap.size, 1, none⟩) (G1.out.block wr.heap.size (by simp; have := XS.out; omega) (fun e => by have := VLT.out _ e.symm; omega))).trans ((World.cell?_of_block (a := ⟨wr.heap.size, 1, none⟩) (Below.heap_alloc X _ _ (by have := XS.out; show wr.heap.size < _; omega))).trans x1)
          obtain ⟨g1, cap1, hv1, _⟩ := own_src O1.out (by omega)
          subst hv1
          have M1 := hid (own_mkS (n := n + 1) (mark := mk) (by rw [markS_app]; exact O1.out))
          clear HX
          go_wp2_with (first
            | (at_builtin; refine wpList_append_keeps rfl _ _ 33 rfl 0 67 i0 (.agg #[.slice none 0 0, .int .i64 0]) 2 32 Tryz.underlying33 hi hz0 hz1 hz2 rfl (by decide) _ _ _ rfl (V1.out.alloc _) ⟨_, 0, none⟩ 2 2 [nilS, .int .i64 mk, nilS, .int .i64 mk] rfl rfl (new_at _ _ _ _ (by first | rfl | exact XS.out.symm)) (markS_one mk 2) (by unfold maxLen; omega) (by omega) (Nat.zero_le _) ?_))
          intro v2 y2 O2 G2 A2 V2 H2
          have z2 : y1.heap.size < y2.heap.size := by have := G2.out.size; simp at this; omega
          have K2 := hid ((KB.of K1.out (w' := y1.alloc _) (Below.heap_alloc _ (.cells #[nilS, .int .i64 mk, nilS, .int .i64 mk] 67) _ K1.out.1) (by simp)).gb G2.out VKB.out)
          have F2 := hid (show Fr (fun k => k = kb ∨ (Value.slice ao n cap).ownBlock = some k) w1 y2 from F1.out.trans ((Fr.below ((Below.refl _ _).alloc (Nat.le_refl _) (.cells #[nilS, .int .i64 mk, nilS, .int .i64 mk] 67))).trans (Fr.grown G2.out (fun q hq _ => .inr hq))))
          have x02 : y2.cell? ⟨wr.heap.size, 0, none⟩ = some nilS := (World.cell?_of_block (a := ⟨wr.heap.size, 0, none⟩) (G2.out.block wr.heap.size (by simp; have := XS.out; omega) (fun e => by have := VLT.out _ e.symm; omega))).trans ((World.cell?_of_block (a := ⟨wr.heap.size, 0, none⟩) (Below.heap_alloc y1 _ _ (by have := XS.out; show wr.heap.size < _; omega))).trans x01)
          have x12 : y2.cell? ⟨wr.heap.size, 1, none⟩ = some (.int .i64 mk) := (World.cell?_of_block (a := ⟨wr.heap.size, 1, none⟩) (G2.out.block wr.heap.size (by simp; have := XS.out; omega) (fun e => by have := VLT.out _ e.symm; omega))).trans ((World.cell?_of_block (a := ⟨wr.heap.size, 1, none⟩) (Below.heap_alloc y1 _ _ (by have := XS.out; show wr.heap.size < _; omega))).trans x11)
          obtain ⟨g2, cap2, hv2, _⟩ := own_src O2.out (by omega)
          subst hv2
          have M2 := hid (own_mkS (n := n + 2) (mark := mk) (by rw [markS_app]; exact O2.out))
          go_wp2_with (first
            | (at_builtin; refine wpList_append_keeps rfl _ _ 33 rfl 0 67 i0 (.agg #[.slice none 0 0, .int .i64 0]) 2 32 Tryz.underlying33 hi hz0 hz1 hz2 rfl (by decide) _ _ _ rfl (V2.out.alloc _) ⟨_, 0, none⟩ 3 3 [nilS, .int .i64 mk, nilS, .int .i64 mk, nilS, .int .i64 mk] rfl rfl (new_at _ _ _ _ (by first | rfl | exact XS.out.symm)) (markS_one mk 3) (by unfold maxLen; omega) (by omega) (Nat.zero_le _) ?_))
          intro v3 y3 O3 G3 A3 V3 H3
          have z3 : y2.heap.size < y3.heap.size := by have := G3.out.size; simp at this; omega
          have K3 := hid ((KB.of K2.out (w' := y2.alloc _) (Below.heap_alloc _ (.cells #[nilS, .int .i64 mk, nilS, .int .i64 mk, nilS, .int .i64 mk] 67) _ K2.out.1) (by simp)).gb G3.out VKB.out)
          have F3 := hid (show Fr (fun k => k = kb ∨ (Value.slice ao n cap).ownBlock = some k) w1 y3 from F2.out.trans ((Fr.below ((Below.refl _ _).alloc (Nat.le_refl _) (.cells #[nilS, .int .i64 mk, nilS, .int .i64 mk, nilS, .int .i64 mk] 67))).trans (Fr.grown G3.out (fun q hq _ => .inr hq))))
          have x03 : y3.cell? ⟨wr.heap.size, 0, none⟩ = some nilS := (World.cell?_of_block (a := ⟨wr.heap.size, 0, none⟩) (G3.out.block wr.heap.size (by simp; have := XS.out; omega) (fun e => by have := VLT.out _ e.symm; omega))).trans ((World.cell?_of_block (a := ⟨wr.heap.size, 0, none⟩) (Below.heap_alloc y2 _ _ (by have := XS.out; show wr.heap.size < _; omega))).trans x02)
          have x13 : y3.cell? ⟨wr.heap.size, 1, none⟩ = some (.int .i64 mk) := (World.cell?_of_block (a := ⟨wr.heap.size, 1, none⟩) (G3.out.block wr.heap.size (by simp; have := XS.out; omega) (fun e => by have := VLT.out _ e.symm; omega))).trans ((World.cell?_of_block (a := ⟨wr.heap.size, 1, none⟩) (Below.heap_alloc y2 _ _ (by have := XS.out; show wr.heap.size < _; omega))).trans x12)
          obtain ⟨g3, cap3, hv3, _⟩ := own_src O3.out (by omega)
          subst hv3
          have M3 := hid (own_mkS (n := n + 3) (mark := mk) (by rw [markS_app]; exact O3.out))
          have M23 := hid (Mk.appS (n := n) (m := 3) (M2.out.call ((Below.refl _ _).alloc (Nat.le_refl _) _)) G3.out H3.out)
          have M12 := hid (Mk.appS (n := n) (m := 2) (M1.out.call ((Below.refl _ _).alloc (Nat.le_refl _) _)) G2.out H2.out)
          have M13 := hid (Mk.appS (n := n) (m := 3) (M12.out.call ((Below.refl _ _).alloc (Nat.le_refl _) _)) G3.out H3.out)
          have M03 := hid (own_mkS V3.out)
          have hOP := own_fr OB.out.so F3.out (fun k hk => by
            intro hc
            rcases hc with hc | hc
            · subst hc; exact OB.out.a2 hk
            · exact (APL.out k hc).2.2.1 hk)
          have OP := hid hOP
          obtain ⟨kz3, e0, e1, e2, ef⟩ := K3.out
          have e0' : y3.cell? ⟨kb, 0, none⟩ = some (.int .i64 ((M : Int) + 1)) := e0
          have few := OB.out.few
          have n1 : S.length + 1 ≤ maxLen := by unfold maxLen; omega
          have n2 : (S.length + 1) * 104 ≤ 140737488355328 := by omega
          have wm : IntKind.i64.wrap mk = mk := by rw [IntKind.wrap_i64]; omega
          clear hOP e0 ef c0' c1 c2 x0 x1 x01 x11 x02 x12 x03 x13
          go_wp2_with fail
          go_region_law
            ((refine step_append_lies _ (by rfl) _ _ _ (by rfl) 0 48 ip (.agg #[.slice none 0 0, .slice none 0 0, .slice none 0 0, .slice none 0 0, .int .i64 0]) 5 104 Tryz.underlying25 hip hzp0 hzp1 hzp2 rfl (by omega) vs S.length (recsV S) (by rfl) ((OP.out.alloc _).drew) ⟨y3.heap.size, 0, none⟩ 1 1 [.slice ao n cap, .slice (some ⟨g1, 0, none⟩) (n + 1) cap1, .slice (some ⟨g2, 0, none⟩) (n + 2) cap2, .slice (some ⟨g3, 0, none⟩) (n + 3) cap3, .int .i64 mk] (by rfl) (by rfl) (World.news_of_block (cs := #[.slice ao n cap, .slice (some ⟨g1, 0, none⟩) (n + 1) cap1, .slice (some ⟨g2, 0, none⟩) (n + 2) cap2, .slice (some ⟨g3, 0, none⟩) (n + 3) cap3, .int .i64 mk]) (t := 48) (fr := (0, 0)) (heap_alloc_new y3 _)) (by simp [Value.oneCell']) (by omega) n1 n2 (Nat.zero_le _) (y3.heap.size + 1) (by simp) ?_; intro gg capg w4 O4 G4 A4 hlt4; have K4 := hid (show KB kb (M + 1) vp' vs w4 from ((K3.out.of (w' := y3.alloc _) (Below.heap_alloc _ (.cells #[.slice ao n cap, .slice (some ⟨g1, 0, none⟩) (n + 1) cap1, .slice (some ⟨g2, 0, none⟩) (n + 2) cap2, .slice (some ⟨g3, 0, none⟩) (n + 3) cap3, .int .i64 mk] 48) _ K3.out.1) (by simp)).of (w' := (y3.alloc _).drew) rfl (Nat.le_refl _)).gb G4 OB.out.a2); have k42 := K4.out.2.2.2.1; have k4f := K4.out.2.2.2.2 2))
          all_goals go_wp2
          all_goals go_ret
          all_goals
            have e1 : (Value.slice ao n cap).ownBlock = some g1 ∨ w1.heap.size ≤ g1 := by
              rcases A1.out with h | h
              · left; rw [← h]; rfl
              · right; simp [Value.ownBlock] at h; have := XS.out; omega
            have e2 : (Value.slice ao n cap).ownBlock = some g2 ∨ w1.heap.size ≤ g2 := by
              rcases A2.out with h | h
              · left; rw [← h]; rfl
              · right; simp [Value.ownBlock] at h; have := XS.out; omega
            have e3 : (Value.slice ao n cap).ownBlock = some g3 ∨ w1.heap.size ≤ g3 := by
              rcases A3.out with h | h
              · left; rw [← h]; rfl
              · right; simp [Value.ownBlock] at h; have := XS.out; omega
            have l1 := (O1.out.lt g1 rfl).2
            have l2 := (O2.out.lt g2 rfl).2
            have l3 := (O3.out.lt g3 rfl).2
            obtain ⟨vs', r, hob, hfr, _⟩ := keep_done (v := .slice ao n cap) (r := ⟨.slice ao n cap, .slice (some ⟨g1, 0, none⟩) (n + 1) cap1, .slice (some ⟨g2, 0, none⟩) (n + 2) cap2, .slice (some ⟨g3, 0, none⟩) (n + 3) cap3, mk⟩) OB.out APL.out F3.out (by
              intro u hu
              simp only [Rec.all, List.mem_cons, List.not_mem_nil, or_false] at hu
              rcases hu with rfl | rfl | rfl | rfl
              · exact M03.out
              · exact M13.out
              · exact M23.out
              · exact M3.out) (by
              intro u hu k hk
              simp only [Rec.all, List.mem_cons, List.not_mem_nil, or_false] at hu
              rcases hu with rfl | rfl | rfl | rfl
              · exact ⟨.inl hk, by have := VLT.out k hk; have := XS.out; omega⟩
              · simp only [Value.ownBlock, Option.some.injEq] at hk; subst hk; exact ⟨e1, by omega⟩
              · simp only [Value.ownBlock, Option.some.injEq] at hk; subst hk; exact ⟨e2, by omega⟩
              · simp only [Value.ownBlock, Option.some.injEq] at hk; subst hk; exact ⟨e3, by omega⟩) O4 G4 A4 K4.out
            refine ⟨rfl, M + 1, vp', vs', P', S ++ [r], hob, by have := EM.out; have := EN.out; omega, (FR.out.imp ?_).trans (hfr.imp ?_)⟩
            · intro k _ hk
              rcases hk with hk | hk | hk
              · exact .inl hk
              · exact .inr (.inl hk)
              · exact .inr (.inr (.inr (.inr hk)))
            · intro k _ hk
              rcases hk with hk | hk | hk
              · exact .inl hk
              · exact .inr (.inr (.inl hk))
              · exact .inr (.inr (.inr (.inl hk)))
end Go.Proofs.YtljfiefobnncaabGreatDoor

/- outline.Cycles; outlinelaw: walked. -/
namespace Go.Proofs.YtljfiefobnncaabGreatDoor
open Go.RowKit

/-- What was made behind the book lies apart from it. -/
theorem ap_new {kb N : Nat} {vp vs : Value} {P S : List Rec} {w : World} (h : OBook kb N vp vs P S w) {v : Value} (hv : ∀ k, v.ownBlock = some k → w.heap.size ≤ k) : Ap kb vp vs P S v := fun k hk => by
  have hz := hv k hk
  refine ⟨by have := h.lt; omega, fun e => by have := (h.po.lt k e).2; omega, fun e => by have := (h.so.lt k e).2; omega, fun r hr u hu e => by have := h.old r hr u hu k e; omega⟩
set_option maxRecDepth 4000 in
set_option maxHeartbeats 1000000 in
theorem walked_any (kb N : Nat) (vp vs : Value) (P S : List Rec) (W H : Int) (s : ByteArray) (pol : Int) (draws : ByteArray) (spk : Int) (w : World) (hO : OBook kb N vp vs P S w) (hN : N ≤ 400000) :
    Calls Tryz.prog 8 #[.pointer (some ⟨kb, 0, none⟩), .agg #[.int .i64 W, .int .i64 H, .string s], .agg #[.int .i64 pol, .string draws, .int .i64 spk]] w fun e w' => e = .returned (.bool true) ∧ ∃ N' vp' vs' P' S', OBook kb N' vp' vs' P' S' w' ∧ N' ≤ N + 1201 ∧ Fr (fun k => k = kb ∨ vp.ownBlock = some k ∨ vs.ownBlock = some k) w w' := by
  have HO := hid hO
  clear hO
  cases hm : mayB W H s.data.toList pol spk
  · go_enter Tryz.func8, Tryz.ntmps8
    go_wp2_with fail
    refine (cycles_no W H s pol draws spk _ hm).mono ?_
    rintro e w1 ⟨rfl, b1⟩
    have B1 := hid (show Below w.heap.size w w1 from Below.trans (b := _) (by go_grown) (b1.mono (by simp; omega)))
    obtain ⟨hc, hf⟩ := bcell b1
    have z1 := b1.size
    simp at z1
    clear b1
    go_wp2_with fail
    refine (refCycles_no W H s pol draws spk _ hm).mono ?_
    rintro e w2 ⟨rfl, b2⟩
    have B2 := hid (B1.out.trans (b2.mono B1.out.size))
    clear b2 hc hf
    go_wp2_with fail
    refine (same_any id (.slice none 0 0) (.slice none 0 0) [] [] _ rfl (Seen.nil id 0 _).shown (Seen.nil id 0 _).shown (by simp) (by simp)).mono ?_
    rintro e w3 ⟨rfl, b3⟩
    have B3 := hid (B2.out.trans (b3.mono B2.out.size))
    clear b3
    go_wp2_with fail
    refine (keep_any id 0 (.slice none 0 0) [] kb N vp vs P S _ (HO.out.below B3.out) ⟨World.ownsRow_nil _ _ _ _, by simp, by simp⟩ (by simp) (by simp) (by simp) (by omega) (by simp) (fun k hk => by simp [Value.ownBlock] at hk)).mono ?_
    rintro e w4 ⟨rfl, N', vp', vs', P', S', ho, hn', hfr⟩
    have OB := hid ho
    have FR := hid hfr
    clear ho hfr
    go_wp2
    go_ret
    refine ⟨rfl, N', vp', vs', P', S', OB.out, by simp at hn'; omega, (Fr.below B3.out).trans (FR.out.imp ?_)⟩
    intro k _ hk
    rcases hk with hk | hk | hk | hk | ⟨p, hp, _⟩
    · exact .inl hk
    · exact .inr (.inl hk)
    · exact .inr (.inr hk)
    · simp [Value.ownBlock] at hk
    · simp at hp
  · obtain ⟨hg, p0, p1⟩ := may_parts hm
    obtain ⟨W, H, rfl, rfl, h1, h2, h3, h4, h5⟩ := Pm.goodB_parts hg
    obtain ⟨pol, rfl⟩ : ∃ q : Nat, pol = q := ⟨pol.toNat, by omega⟩
    have hp3 : pol ≤ 3 := by omega
    have HL := hid h5
    clear h5 hg p0 p1
    go_enter Tryz.func8, Tryz.ntmps8
    go_wp2_with fail
    refine (cycles_yes W H s pol draws spk _ hm h2 h4 HL.out hp3).mono ?_
    rintro e w1 ⟨vl, rfl, La, r1, rw1, b1, ln⟩
    have B1 := hid (show Below w.heap.size w w1 from Below.trans (b := _) (by go_grown) (b1.mono (by simp; omega)))
    obtain ⟨hc, hf⟩ := bcell b1
    have z1 := b1.size
    simp at z1
    have R1 := hid r1
    have RW1 := hid (show Rowed (fB W H s pol draws) (w.heap.size + 2) vl La w1 from ⟨rw1.row.mono (by simp), fun p hp => (rw1.pts p hp).mono (by simp), rw1.apart⟩)
    obtain ⟨ao, cap, rfl⟩ := own_len rw1.row
    clear b1 r1 rw1
    go_wp2_with fail
    refine (refCycles_yes W H s pol draws spk _ hm h1 h2 h4 HL.out hp3).mono ?_
    rintro e w2 ⟨vm, rfl, Lm, r2, sn2, b2⟩
    have B2 := hid (B1.out.trans (b2.mono B1.out.size))
    have R2 := hid r2
    have SN2 := hid sn2
    have RW2 := hid (show Rowed (fB W H s pol draws) (w.heap.size + 2) _ La w2 from ⟨own_below RW1.out.row b2, fun p hp => own_below (RW1.out.pts p hp) b2, RW1.out.apart⟩)
    obtain ⟨ao2, cap2, rfl, _⟩ := sn2.row
    clear b2 hc hf r2 sn2
    have POS := hid (show ∀ p ∈ La, 0 < p.2.2 from fun p hp => (R1.out.1 p.2 (List.mem_map_of_mem hp)).1.2.1)
    have LE := hid (show ∀ p ∈ La, p.2.2 ≤ 4356 from fun p hp => cyc_le h2 h4 (R1.out.1 p.2 (List.mem_map_of_mem hp)).1)
    go_wp2_with fail
    refine (same_any (fB W H s pol draws) _ _ La Lm _ (R1.out.unique R2.out) (RW2.out.shown POS.out) SN2.out.shown (own_max RW2.out.row) (fun p hp => by have := LE.out p hp; omega)).mono ?_
    rintro e w3 ⟨rfl, b3⟩
    have B3 := hid (B2.out.trans (b3.mono B2.out.size))
    have RW3 := hid (show Rowed (fB W H s pol draws) (w.heap.size + 2) _ La w3 from ⟨own_below RW2.out.row b3, fun p hp => own_below (RW2.out.pts p hp) b3, RW2.out.apart⟩)
    clear b3
    go_wp2_with fail
    refine (keep_any (fB W H s pol draws) (w.heap.size + 2) _ La kb N vp vs P S _ (HO.out.below B3.out) RW3.out POS.out (fun p hp => by have := LE.out p hp; omega) ln (by omega) (fun p hp => ap_new HO.out (fun k hk => by have := ((RW3.out.pts p hp).lt k hk).1; omega)) (ap_new HO.out (fun k hk => by have := (RW3.out.row.lt k hk).1; omega))).mono ?_
    rintro e w4 ⟨rfl, N', vp', vs', P', S', ho, hn', hfr⟩
    have OB := hid ho
    have FR := hid hfr
    clear ho hfr
    go_wp2
    go_ret
    have z3 := B3.out.size
    have fr2 : Fr (fun k => k = kb ∨ vp.ownBlock = some k ∨ vs.ownBlock = some k) w w4 := by
      refine ⟨FR.out.os.trans B3.out.os, FR.out.tape.trans B3.out.tape, FR.out.output.trans B3.out.output, Nat.le_trans z3 FR.out.size, fun k hk hc => (FR.out.block k (by omega) (fun hc2 => ?_)).trans (B3.out.block k hk)⟩
      rcases hc2 with e | e | e | e | ⟨p, hp, e⟩
      · exact hc (.inl e)
      · exact hc (.inr (.inl e))
      · exact hc (.inr (.inr e))
      · have := (RW3.out.row.lt k e).1; omega
      · have := ((RW3.out.pts p hp).lt k e).1; omega
    exact ⟨rfl, N', vp', vs', P', S', OB.out, by omega, fr2⟩
end Go.Proofs.YtljfiefobnncaabGreatDoor

/- Lines and the middles of pixels: to the right of one, above one, through one. Nothing of the program stands here. -/
namespace Go.Proofs.YtljfiefobnncaabGreatDoor.Qm

/-- Does the line pass at the height of row y? -/
def reaB (p q : Int × Int) (y : Int) : Bool := decide (p.2 ≤ y) != decide (q.2 ≤ y)
def farZ (p q : Int × Int) (x y : Int) : Int := (2 * (p.1 - x) - 1) * (q.2 - p.2) + (2 * (y - p.2) + 1) * (q.1 - p.1)
/-- How far to the right of the middle. -/
def rtZ (p q : Int × Int) (x y : Int) : Int := if q.2 < p.2 then -farZ p q x y else farZ p q x y
/-- What a line adds to the winding number. -/
def wdZ (p q : Int × Int) (x y : Int) : Int := if reaB p q y = false ∨ rtZ p q x y ≤ 0 then 0 else if q.2 < p.2 then 1 else -1
/-- Does it go through the middle? -/
def thB (p q : Int × Int) (x y : Int) : Bool := reaB p q y && decide (rtZ p q x y = 0)

def crZ (p q : Int × Int) (x y : Int) : Int := (2 * (p.1 - x) - 1) * (2 * (q.2 - y) - 1) - (2 * (p.2 - y) - 1) * (2 * (q.1 - x) - 1)
def dtZ (p q : Int × Int) (x y : Int) : Int := (2 * (p.1 - x) - 1) * (2 * (q.1 - x) - 1) + (2 * (p.2 - y) - 1) * (2 * (q.2 - y) - 1)
/-- The same, as the document's answer asks it. -/
def thR (p q : Int × Int) (x y : Int) : Bool := decide (crZ p q x y = 0) && decide (dtZ p q x y ≤ 0)
/-- What a line adds, counted above the middle. -/
def abZ (p q : Int × Int) (x y : Int) : Int := if 2 * (p.1 - x) - 1 < 0 ∧ 0 < 2 * (q.1 - x) - 1 ∧ 0 < crZ p q x y then -1 else if 0 < 2 * (p.1 - x) - 1 ∧ 2 * (q.1 - x) - 1 < 0 ∧ crZ p q x y < 0 then 1 else 0

theorem cr_far (p q : Int × Int) (x y : Int) : crZ p q x y = 2 * farZ p q x y := by
  unfold crZ farZ; grind

/-- Signs of a product. -/
theorem sgn_mul {a b : Int} (ha : a ≠ 0) (hb : b ≠ 0) : (0 < a ∧ 0 < b ∧ 0 < a * b) ∨ (a < 0 ∧ b < 0 ∧ 0 < a * b) ∨ (0 < a ∧ b < 0 ∧ a * b < 0) ∨ (a < 0 ∧ 0 < b ∧ a * b < 0) := by
  rcases Int.lt_or_gt_of_ne ha with h | h <;> rcases Int.lt_or_gt_of_ne hb with k | k
  · exact .inr (.inl ⟨h, k, Int.mul_pos_of_neg_of_neg h k⟩)
  · exact .inr (.inr (.inr ⟨h, k, Int.mul_neg_of_neg_of_pos h k⟩))
  · exact .inr (.inr (.inl ⟨h, k, Int.mul_neg_of_pos_of_neg h k⟩))
  · exact .inl ⟨h, k, Int.mul_pos h k⟩

/-- The quadrant between the two rays. -/
def qd (x y : Int) (p : Int × Int) : Int := if x < p.1 ∧ p.2 ≤ y then 1 else 0

/-- What the four signs give. -/
theorem cr_signs (p q : Int × Int) (x y : Int) :
    ∃ A B C D : Int, crZ p q x y = A - B ∧ dtZ p q x y = C + D ∧ 2 * farZ p q x y = A - B ∧
      ((x < p.1 ∧ y < q.2 ∧ 0 < A) ∨ (p.1 ≤ x ∧ q.2 ≤ y ∧ 0 < A) ∨ (x < p.1 ∧ q.2 ≤ y ∧ A < 0) ∨ (p.1 ≤ x ∧ y < q.2 ∧ A < 0)) ∧
      ((y < p.2 ∧ x < q.1 ∧ 0 < B) ∨ (p.2 ≤ y ∧ q.1 ≤ x ∧ 0 < B) ∨ (y < p.2 ∧ q.1 ≤ x ∧ B < 0) ∨ (p.2 ≤ y ∧ x < q.1 ∧ B < 0)) ∧
      ((x < p.1 ∧ x < q.1 ∧ 0 < C) ∨ (p.1 ≤ x ∧ q.1 ≤ x ∧ 0 < C) ∨ (x < p.1 ∧ q.1 ≤ x ∧ C < 0) ∨ (p.1 ≤ x ∧ x < q.1 ∧ C < 0)) ∧
      ((y < p.2 ∧ y < q.2 ∧ 0 < D) ∨ (p.2 ≤ y ∧ q.2 ≤ y ∧ 0 < D) ∨ (y < p.2 ∧ q.2 ≤ y ∧ D < 0) ∨ (p.2 ≤ y ∧ y < q.2 ∧ D < 0)) := by
  refine ⟨_, _, _, _, rfl, rfl, (cr_far p q x y).symm, ?_, ?_, ?_, ?_⟩
  · have := sgn_mul (a := 2 * (p.1 - x) - 1) (b := 2 * (q.2 - y) - 1) (by omega) (by omega); omega
  · have := sgn_mul (a := 2 * (p.2 - y) - 1) (b := 2 * (q.1 - x) - 1) (by omega) (by omega); omega
  · have := sgn_mul (a := 2 * (p.1 - x) - 1) (b := 2 * (q.1 - x) - 1) (by omega) (by omega); omega
  · have := sgn_mul (a := 2 * (p.2 - y) - 1) (b := 2 * (q.2 - y) - 1) (by omega) (by omega); omega

theorem reaB_iff (p q : Int × Int) (y : Int) : reaB p q y = true ↔ (p.2 ≤ y ∧ y < q.2) ∨ (q.2 ≤ y ∧ y < p.2) := by
  unfold reaB
  by_cases h1 : p.2 ≤ y <;> by_cases h2 : q.2 ≤ y <;> simp [h1, h2] <;> omega
theorem thB_iff (p q : Int × Int) (x y : Int) : thB p q x y = true ↔ ((p.2 ≤ y ∧ y < q.2) ∨ (q.2 ≤ y ∧ y < p.2)) ∧ farZ p q x y = 0 := by
  unfold thB
  rw [Bool.and_eq_true, reaB_iff, decide_eq_true_eq]
  unfold rtZ
  split <;> omega
theorem thR_iff (p q : Int × Int) (x y : Int) : thR p q x y = true ↔ crZ p q x y = 0 ∧ dtZ p q x y ≤ 0 := by
  unfold thR
  rw [Bool.and_eq_true, decide_eq_true_eq, decide_eq_true_eq]
/-- Both ask the same. -/
theorem th_same (p q : Int × Int) (x y : Int) : thR p q x y = thB p q x y := by
  obtain ⟨A, B, C, D, h1, h2, h3, hA, hB, hC, hD⟩ := cr_signs p q x y
  have e : thR p q x y = true ↔ thB p q x y = true := by
    rw [thR_iff, thB_iff, h1, h2]
    omega
  cases a : thR p q x y <;> cases b : thB p q x y <;> simp_all
theorem wdZ_eq (p q : Int × Int) (x y : Int) : wdZ p q x y = if q.2 ≤ y ∧ y < p.2 ∧ farZ p q x y < 0 then 1 else if p.2 ≤ y ∧ y < q.2 ∧ 0 < farZ p q x y then -1 else 0 := by
  have r := reaB_iff p q y
  unfold wdZ
  cases hr : reaB p q y
  · rw [hr] at r
    simp at r
    rw [if_pos (.inl rfl), if_neg (by omega), if_neg (by omega)]
  · rw [hr] at r
    have r2 := r.1 rfl
    unfold rtZ
    simp only [Bool.true_eq_false, false_or]
    repeat' split <;> try omega
/-- Above and to the right differ by where the line begins and ends. -/
theorem ab_wd (p q : Int × Int) (x y : Int) (h : thB p q x y = false) : abZ p q x y - wdZ p q x y = qd x y p - qd x y q := by
  obtain ⟨A, B, C, D, h1, _, h3, hA, hB, _, _⟩ := cr_signs p q x y
  have nt : ¬ (((p.2 ≤ y ∧ y < q.2) ∨ (q.2 ≤ y ∧ y < p.2)) ∧ farZ p q x y = 0) := fun hh => by rw [(thB_iff p q x y).2 hh] at h; simp at h
  rw [wdZ_eq]
  unfold abZ qd
  rw [h1]
  repeat' split <;> try omega
end Go.Proofs.YtljfiefobnncaabGreatDoor.Qm

/- The polygon of a cycle as the program finds it, as functions. Nothing of the program stands here. -/
namespace Go.Proofs.YtljfiefobnncaabGreatDoor.Qm

abbrev Pt : Type := Int × Int
/-- lines, cost, span. -/
abbrev Rw : Type := Int × Int × Int

theorem wdZ_in (p q : Pt) (x y : Int) : -1 ≤ wdZ p q x y ∧ wdZ p q x y ≤ 1 := by
  unfold wdZ; split
  · omega
  · split <;> omega
/-- The winding number, line by line. -/
def wsum (l : List Pt) (x y : Int) : Nat → Int
  | 0 => 0
  | k + 1 => wsum l x y k + wdZ (pr l k) (l.getD k (0, 0)) x y
theorem wsum_in (l : List Pt) (x y : Int) (k : Nat) : -(k : Int) ≤ wsum l x y k ∧ wsum l x y k ≤ k := by
  induction k with
  | zero => simp [wsum]
  | succ k ih => have := wdZ_in (pr l k) (l.getD k (0, 0)) x y; simp only [wsum]; omega
/-- The least and the greatest of the first k. -/
def loF (g : Pt → Int) (l : List Pt) : Nat → Int
  | 0 => g (l.getD 0 (0, 0))
  | k + 1 => if g (l.getD k (0, 0)) < loF g l k then g (l.getD k (0, 0)) else loF g l k
def hiF (g : Pt → Int) (l : List Pt) : Nat → Int
  | 0 => g (l.getD 0 (0, 0))
  | k + 1 => if hiF g l k < g (l.getD k (0, 0)) then g (l.getD k (0, 0)) else hiF g l k
theorem loF_one (g : Pt → Int) (l : List Pt) : loF g l 1 = g (l.getD 0 (0, 0)) := by simp [loF]
theorem hiF_one (g : Pt → Int) (l : List Pt) : hiF g l 1 = g (l.getD 0 (0, 0)) := by simp [hiF]
theorem loF_le (g : Pt → Int) (l : List Pt) : ∀ k i, i < k → loF g l k ≤ g (l.getD i (0, 0))
  | 0, _, h => absurd h (Nat.not_lt_zero _)
  | k + 1, i, h => by
    rcases Nat.lt_or_ge i k with h1 | h1
    · have := loF_le g l k i h1
      simp only [loF]; split <;> omega
    · obtain rfl : i = k := by omega
      simp only [loF]; split <;> omega
theorem le_hiF (g : Pt → Int) (l : List Pt) : ∀ k i, i < k → g (l.getD i (0, 0)) ≤ hiF g l k
  | 0, _, h => absurd h (Nat.not_lt_zero _)
  | k + 1, i, h => by
    rcases Nat.lt_or_ge i k with h1 | h1
    · have := le_hiF g l k i h1
      simp only [hiF]; split <;> omega
    · obtain rfl : i = k := by omega
      simp only [hiF]; split <;> omega
theorem loF_at (g : Pt → Int) (l : List Pt) : ∀ k, ∃ i, (i < k ∨ i = 0) ∧ loF g l k = g (l.getD i (0, 0))
  | 0 => ⟨0, .inr rfl, rfl⟩
  | k + 1 => by
    obtain ⟨i, hi, e⟩ := loF_at g l k
    simp only [loF]
    split
    · exact ⟨k, .inl (by omega), rfl⟩
    · exact ⟨i, by omega, e⟩
theorem hiF_at (g : Pt → Int) (l : List Pt) : ∀ k, ∃ i, (i < k ∨ i = 0) ∧ hiF g l k = g (l.getD i (0, 0))
  | 0 => ⟨0, .inr rfl, rfl⟩
  | k + 1 => by
    obtain ⟨i, hi, e⟩ := hiF_at g l k
    simp only [hiF]
    split
    · exact ⟨k, .inl (by omega), rfl⟩
    · exact ⟨i, by omega, e⟩
theorem loF_in {l : List Pt} (h : Small l) (k : Nat) : (0 ≤ loF Prod.fst l k ∧ loF Prod.fst l k ≤ 32) ∧ (0 ≤ loF Prod.snd l k ∧ loF Prod.snd l k ≤ 32) := by
  obtain ⟨i, _, e⟩ := loF_at Prod.fst l k
  obtain ⟨j, _, e2⟩ := loF_at Prod.snd l k
  have a := h.at i
  have b := h.at j
  rw [e, e2]; omega
theorem hiF_in {l : List Pt} (h : Small l) (k : Nat) : (0 ≤ hiF Prod.fst l k ∧ hiF Prod.fst l k ≤ 32) ∧ (0 ≤ hiF Prod.snd l k ∧ hiF Prod.snd l k ≤ 32) := by
  obtain ⟨i, _, e⟩ := hiF_at Prod.fst l k
  obtain ⟨j, _, e2⟩ := hiF_at Prod.snd l k
  have a := h.at i
  have b := h.at j
  rw [e, e2]; omega

def fstP (l : List Pt) : Pt := l.getD 0 (0, 0)
def lstP (l : List Pt) : Pt := l.getD (l.length - 1) (0, 0)
/-- Is all well at the middle of (x, y)? -/
def okAt (l : List Pt) (x y : Int) : Bool := !thB (lstP l) (fstP l) x y && decide (wsum l x y l.length = 0)
/-- May one line stand for the points? -/
def fitB (l : List Pt) : Bool :=
  (List.range (hiF Prod.snd l l.length - loF Prod.snd l l.length).toNat).all fun j => (List.range (hiF Prod.fst l l.length - loF Prod.fst l l.length).toNat).all fun i =>
    okAt l (loF Prod.fst l l.length + (i : Nat)) (loF Prod.snd l l.length + (j : Nat))
theorem fitB_iff (l : List Pt) : fitB l = true ↔ ∀ x y, loF Prod.fst l l.length ≤ x → x < hiF Prod.fst l l.length → loF Prod.snd l l.length ≤ y → y < hiF Prod.snd l l.length → okAt l x y = true := by
  unfold fitB
  simp only [List.all_eq_true, List.mem_range]
  constructor
  · intro h x y x0 x1 y0 y1
    have := h (y - loF Prod.snd l l.length).toNat (by omega) (x - loF Prod.fst l l.length).toNat (by omega)
    rwa [show loF Prod.fst l l.length + ((x - loF Prod.fst l l.length).toNat : Int) = x from by omega, show loF Prod.snd l l.length + ((y - loF Prod.snd l l.length).toNat : Int) = y from by omega] at this
  · intro h j hj i hi
    exact h _ _ (by omega) (by omega) (by omega) (by omega)

/-- How far p is off the line from a to z, times its length. -/
def offZ (a z p : Pt) : Int := (z.1 - a.1) * (p.2 - a.2) - (z.2 - a.2) * (p.1 - a.1)
def absZ (n : Int) : Int := if n < 0 then -n else n
def costTo (a z : Pt) (l : List Pt) : Nat → Int
  | 0 => 0
  | k + 1 => costTo a z l k + absZ (offZ a z (l.getD k (0, 0)))
def costOf (l : List Pt) : Int := costTo (fstP l) (lstP l) l l.length

theorem mul_in {a b : Int} (h1 : -32 ≤ a) (h2 : a ≤ 32) (h3 : -32 ≤ b) (h4 : b ≤ 32) : -1024 ≤ a * b ∧ a * b ≤ 1024 := by
  have p : ∀ {u v : Int}, 0 ≤ u → u ≤ 32 → 0 ≤ v → v ≤ 32 → 0 ≤ u * v ∧ u * v ≤ 1024 := fun a b c d => mul_small a b c d
  rcases Int.le_total 0 a with ha | ha <;> rcases Int.le_total 0 b with hb | hb
  · have := p ha h2 hb h4; omega
  · have := p ha h2 (show 0 ≤ -b by omega) (by omega); rw [Int.mul_neg] at this; omega
  · have := p (show 0 ≤ -a by omega) (by omega) hb h4; rw [Int.neg_mul] at this; omega
  · have := p (show 0 ≤ -a by omega) (by omega) (show 0 ≤ -b by omega) (by omega); rw [Int.neg_mul_neg] at this; omega
theorem costTo_in {l : List Pt} (h : Small l) (a z : Pt) (ha : 0 ≤ a.1 ∧ a.1 ≤ 32 ∧ 0 ≤ a.2 ∧ a.2 ≤ 32) (hz : 0 ≤ z.1 ∧ z.1 ≤ 32 ∧ 0 ≤ z.2 ∧ z.2 ≤ 32) (k : Nat) : 0 ≤ costTo a z l k ∧ costTo a z l k ≤ 2048 * k := by
  induction k with
  | zero => simp [costTo]
  | succ k ih =>
    have p := h.at k
    have m1 := mul_in (a := z.1 - a.1) (b := (l.getD k (0, 0)).2 - a.2) (by omega) (by omega) (by omega) (by omega)
    have m2 := mul_in (a := z.2 - a.2) (b := (l.getD k (0, 0)).1 - a.1) (by omega) (by omega) (by omega) (by omega)
    simp only [costTo]
    unfold absZ offZ
    split <;> omega
theorem Small.take {l : List Pt} (h : Small l) (n : Nat) : Small (l.take n) := fun p hp => h p (List.mem_of_mem_take hp)
theorem Small.drop {l : List Pt} (h : Small l) (n : Nat) : Small (l.drop n) := fun p hp => h p (List.mem_of_mem_drop hp)
theorem costOf_in {l : List Pt} (h : Small l) : 0 ≤ costOf l ∧ costOf l ≤ 2048 * l.length := costTo_in h _ _ (h.at _) (h.at _) _

/-- Is a better than b? -/
def betB (a b : Rw) : Bool := decide (a.1 < b.1 ∨ (a.1 = b.1 ∧ a.2.1 < b.2.1))
/-- The best of the rows whose first line stands for up to k sides. -/
def accR (l : List Pt) (B : List Rw) : Nat → Rw
  | 0 => (0, 0, 0)
  | k + 1 =>
    let r := B.getD (B.length - (k + 1)) (0, 0, 0)
    let r' : Rw := (r.1 + 1, r.2.1 + costOf (l.take (k + 2)), (k : Int) + 1)
    if fitB (l.take (k + 2)) && (decide (k = 0) || betB r' (accR l B k)) then r' else accR l B k
/-- How many spans are tried. -/
def spn (n b : Nat) : Nat := min 12 (min (n - 1) b)
/-- The rows from the last m points on, the one from the last point first. -/
def rowsTo (v : List Pt) : Nat → List Rw
  | 0 => []
  | m + 1 => rowsTo v m ++ [accR (v.drop (v.length - 1 - m)) (rowsTo v m) (spn (m + 1) m)]
theorem rowsTo_len (v : List Pt) (m : Nat) : (rowsTo v m).length = m := by
  induction m with
  | zero => rfl
  | succ m ih => simp [rowsTo, ih]
/-- The numbers of the corners ahead of k, and the next one. -/
def cornTo (B : List Rw) : Nat → List Nat × Int
  | 0 => ([], 0)
  | k + 1 => if (k : Int) = (cornTo B k).2 then ((cornTo B k).1 ++ [k], (k : Int) + (B.getD (B.length - 1 - k) (0, 0, 0)).2.2) else cornTo B k
/-- The corners of a cycle. -/
def cornN (c : List Pt) : List Nat := (cornTo (rowsTo (c ++ [fstP c]) (c.length + 1)) c.length).1
def cornL (c : List Pt) : List Pt := (cornN c).map fun i => c.getD i (0, 0)
end Go.Proofs.YtljfiefobnncaabGreatDoor.Qm
