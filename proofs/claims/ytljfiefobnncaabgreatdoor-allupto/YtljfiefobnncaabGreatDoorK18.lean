import Derived.Test.YtljfiefobnncaabGreatDoorK17
import Derived.Test.YtljfiefobnncaabGreatDoorK14

/- outlinelaw: keep, of lists of shapes of any points. -/
namespace Go.Proofs.YtljfiefobnncaabGreatDoor
open Go.RowKit
attribute [local go_sem ↓] Go.wp_at_zero Go.wp_at_succ

theorem infoShpsP : (Tryz.prog.info? 48).map (fun i => (i.zero, i.size, i.bytes)) = some (some (.agg #[.slice none 0 0, .slice none 0 0, .slice none 0 0, .slice none 0 0, .int .i64 0]), 5, 104) := by kernel_rfl

/-- The row stands where it stood, or in a new block. -/
def Kin (v v' : Value) (w : World) : Prop := v'.ownBlock = v.ownBlock ∨ ∃ q, v'.ownBlock = some q ∧ w.heap.size ≤ q

set_option maxRecDepth 4000 in
set_option maxHeartbeats 2000000 in
theorem keepP_any (b : Nat) (vl : Value) (L : List (Value × List (Int × Int))) (kb N : Nat) (vp vs : Value) (P S : List Rec) (w : World) (hO : OBook kb N vp vs P S w) (hR : RowP b vl L w) (hn : ∀ p ∈ L, 0 < p.2.length) (hn2 : ∀ p ∈ L, p.2.length ≤ 1000000000) (hLn : L.length ≤ 100000000) (hN : N ≤ 1000000000)
    (hA : ∀ p ∈ L, Ap kb vp vs P S p.1) (hAl : Ap kb vp vs P S vl) :
    Calls Tryz.prog 22 #[.pointer (some ⟨kb, 0, none⟩), vl] w fun e w' => e = .returned (.bool true) ∧ ∃ N' vp' vs' P' S', OBook kb N' vp' vs' P' S' w' ∧ N' ≤ N + L.length + 1 ∧ Fr (fun k => k = kb ∨ vp.ownBlock = some k ∨ vs.ownBlock = some k ∨ vl.ownBlock = some k ∨ ∃ p ∈ L, p.1.ownBlock = some k) w w' ∧ Kin vp vp' w ∧ Kin vs vs' w := by
  obtain ⟨i0, hi, hz0, hz1, hz2⟩ := info_parts infoShape
  obtain ⟨ip, hip, hzp0, hzp1, hzp2⟩ := info_parts infoShpsP
  obtain ⟨ao, cap, hvl⟩ := own_len hR.row
  have K00 := hid (KIp.start (L := L) hO)
  have HR := hid hR
  have HN := hid hn
  have HN2 := hid hn2
  have HA := hid hA
  have HAL := hid hAl
  have HV := hid hvl
  obtain ⟨n, en⟩ : ∃ n, n = L.length := ⟨_, rfl⟩
  rw [hvl, ← en]
  have EN := hid en
  have nb : n ≤ 100000000 := by omega
  clear hO hR hn hn2 hA hAl hvl en hLn
  go_enter Tryz.func22, Tryz.ntmps22
  go_wp2
  go_loopw [5] (fun iv wr => ∃ (i : Nat) (vp' : Value) (P' : List Rec), i ≤ n ∧ iv = .int .i64 i ∧ Hid (KIp kb N vp vs P S L w i vp' P' wr)) (fun i _ => n - (intOf i).toNat)
  case atStart => exact ⟨0, vp, P, by omega, rfl, K00⟩
  case round =>
    clear K00
    obtain ⟨i, vp', P', hin, rfl, h⟩ := hrel
    have apl := h.out.apl HR.out HAL.out
    have row := own_fr HR.out.row h.out.fr apl.2
    have APL := hid apl.1
    have ROW := hid row
    clear apl row
    by_cases hlt : i < n
    · have hiL : i < L.length := by have := EN.out; omega
      obtain ⟨gl, capl, hv2, hcells⟩ := own_src ROW.out (by have := EN.out; omega)
      have e1 : ao = some ⟨gl, 0, none⟩ := by have := HV.out.symm.trans hv2; injection this
      subst e1
      obtain ⟨gv, capv, ev, ov, b1, b2, b3, b4⟩ := h.out.ready HR.out HN.out HA.out hiL
      have sc := (shpP_at L i hiL).1
      rw [ev] at sc
      have c := hcells _ _ sc
      rw [add_zero_at] at c
      have m2 := HN2.out _ (List.getElem_mem hiL)
      obtain ⟨m, em⟩ : ∃ m, m = L[i].2.length := ⟨_, rfl⟩
      obtain ⟨ps, eps⟩ : ∃ ps, ps = L[i].2 := ⟨_, rfl⟩
      have lps := hid (show ps.length = m by rw [eps, em])
      rw [← em] at c ov m2
      rw [← eps] at ov
      have HG := hid (show L[i].1.ownBlock = some gv by rw [ev]; rfl)
      have OV := hid ov
      have B4 := hid b4
      have i0' : (0 : Int) ≤ (i : Nat) := by omega
      have i1' : ((i : Nat) : Int) < (n : Nat) := by omega
      clear hv2 hcells ev ov b4 sc em eps
      go_wp2_with fail
      refine (mine_any kb (N + i) vp' vs P' S gv m capv ps _ h.out.ob OV.out lps.out (by omega) m2 b1 b2 b3 B4.out).mono ?_
      rintro e w2 ⟨rfl, vp2, r, ho, hf, hv, hr⟩
      have NX := hid (h.out.step hiL HG.out ho hf hv hr)
      clear ho hf hv hr
      go_wp2
      go_roundw
      case rel => exact ⟨i + 1, vp2, P' ++ [r], by omega, by go_num, NX⟩
      case measure => simp [intOf]; omega
    · have hk' : ((n : Nat) : Int) ≤ (i : Nat) := by omega
      have ei : i = n := by omega
      go_wp2_with fail
      refine (looks_any kb _ vp' vs P' S _ h.out.ob.book).mono ?_
      rintro e w1 ⟨rfl, bl⟩
      have OB := hid (h.out.ob.below bl)
      have R1 := hid (own_below ROW.out bl)
      have VPB := hid (show Kin vp vp' w from h.out.vpb)
      have FR := hid (show Fr (fun k => k = kb ∨ vp.ownBlock = some k ∨ ∃ p ∈ L, p.1.ownBlock = some k) w w1 from (h.out.fr.imp (fun k _ hk => hk.imp id (fun hk => hk.imp id (fun ⟨p, hp, e⟩ => ⟨p, List.mem_of_mem_take hp, e⟩)))).trans (Fr.below bl))
      have VPB := hid h.out.vpb
      rw [shpP_pair] at R1
      obtain ⟨l0, el0⟩ : ∃ l0, l0 = L.map (fun p => (p.1, Qm.twiceOf p.2)) := ⟨_, rfl⟩
      rw [← el0, ← EN.out] at R1
      have LL := hid (show l0.length = n by rw [el0, List.length_map, EN.out])
      rw [HV.out, ← EN.out] at R1 APL
      obtain ⟨M, eM⟩ : ∃ M, M = N + i := ⟨_, rfl⟩
      rw [← eM] at OB
      have hM : M ≤ 1100000000 := by omega
      have EM := hid eM
      clear bl h ROW el0 eM
      obtain ⟨kz, c0, c1, c2, fz⟩ := (show KB kb M vp' vs w1 from ⟨OB.out.lt, OB.out.c0, OB.out.c1, OB.out.c2, OB.out.fz⟩)
      have f0 := fz 0
      obtain ⟨mk, hmk⟩ : ∃ mk : Int, (1000 : Int) + ((M : Int) + 1) = mk := ⟨_, rfl⟩
      have mk1 : 0 ≤ mk ∧ mk ≤ 4000000000 := by omega
      have VKB := hid (show (Value.slice ao n cap).ownBlock ≠ some kb from fun e => (APL.out kb e).1 rfl)
      go_wp2
      have K0 : KB kb (M + 1) vp' vs (w1.setCell ⟨kb, 0, none⟩ (.int .i64 ((M : Int) + 1))) := KB.set0 (N := M) ⟨kz, c0, c1, c2, fz⟩ (M + 1)
      have HK0 := hid K0
      have VLT0 := hid (show ∀ k, (Value.slice ao n cap).ownBlock = some k → k < w1.heap.size from fun k hk => (R1.out.lt k hk).2)
      have hO0 := hid (show (w1.setCell ⟨kb, 0, none⟩ (.int .i64 ((M : Int) + 1))).ownsRow 0 67 2 (.slice ao n cap) n (pairV (fillP l0 (nilS, mk) 0)) by
        have := own_fr (C := fun k => k = kb) R1.out (w' := (w1.setCell ⟨kb, 0, none⟩ (.int .i64 ((M : Int) + 1)))) (Fr.set rfl) (fun k hk hc => by subst hc; exact VKB.out hk)
        have := this.mono (base' := 0) (Nat.zero_le _)
        simpa [fillP] using this)
      clear K0
      go_loopw [7] (fun iv wr => ∃ i : Nat, i ≤ n ∧ iv = .int .i64 i ∧ Hid (wr.ownsRow 0 67 2 (.slice ao n cap) n (pairV (fillP l0 (nilS, mk) i))) ∧ Hid (Fr (fun k => k = kb ∨ (Value.slice ao n cap).ownBlock = some k) w1 wr) ∧ Hid (KB kb (M + 1) vp' vs wr)) (fun i _ => n - (intOf i).toNat)
      case atStart => exact ⟨0, by omega, rfl, hO0, Fr.set (.inl rfl), HK0⟩
      case round =>
        clear hO0 HK0 c0 c1 c2 f0 fz
        obtain ⟨i, hin, rfl, ho, hf, hK⟩ := hrel
        obtain ⟨kz', c0, c1, c2, fz⟩ := hK.out
        have c0' : wr.cell? ⟨kb, 0, none⟩ = some (.int .i64 ((M : Int) + 1)) := c0
        clear c0
        by_cases hlt : i < n
        · have lf := fillP_len l0 (nilS, mk) i (by rw [LL.out]; omega)
          obtain ⟨gl, capl, hv2, _⟩ := own_src ho.out (by omega)
          have e1 : ao = some ⟨gl, 0, none⟩ := by injection hv2
          subst e1
          have pa := pairV_at (nilS, mk) (fillP l0 (nilS, mk) i) i (by rw [lf, LL.out]; exact hlt)
          have q0 := ho.out.cells (g := gl) rfl _ _ pa.1
          have q1 := ho.out.cells (g := gl) rfl _ _ pa.2
          rw [add_zero_at] at q0 q1
          have r0 := own_frozen ho.out (i * 2)
          have r1 := own_frozen ho.out (i * 2 + 1)
          have o2 := own_set (own_set ho.out (i * 2) nilS) (i * 2 + 1) (.int .i64 mk)
          rw [pairV_set _ (nilS, mk) i (by rw [lf, LL.out]; exact hlt), fillP_succ _ _ _ (by rw [LL.out]; exact hlt)] at o2
          have O2 := hid o2
          have i0' : (0 : Int) ≤ (i : Nat) := by omega
          have i1' : ((i : Nat) : Int) < (n : Nat) := by omega
          have nbk : gl ≠ kb := fun e => VKB.out (by rw [e]; rfl)
          clear pa lf o2 fz hv2
          go_wp2
          go_roundw
          case rel => exact ⟨i + 1, by omega, by go_num, O2, hf.out.trans ((Fr.set (.inr rfl)).trans (Fr.set (.inr rfl))), (hK.out.set _ nbk).set _ nbk⟩
          case measure => simp [intOf]; omega
        · have hk'' : ((n : Nat) : Int) ≤ (i : Nat) := by omega
          have ho2 := ho.out
          rw [show i = n by omega, show fillP l0 (nilS, mk) n = List.replicate n (nilS, mk) by unfold fillP; rw [List.drop_eq_nil_of_le (by rw [LL.out]; exact Nat.le_refl _), List.append_nil]] at ho2
          have HO2 := hid ho2
          have zf := hf.out.size
          have VLT := hid (show ∀ k, (Value.slice ao n cap).ownBlock = some k → k < wr.heap.size from fun k hk => Nat.lt_of_lt_of_le (VLT0.out k hk) zf)
          clear ho2 ho fz
          obtain ⟨X, hX⟩ : ∃ X, X = wr.alloc (.cells #[nilS, .int .i64 mk] 67) := ⟨_, rfl⟩
          have xs : X.heap.size = wr.heap.size + 1 := by rw [hX]; simp
          have x0 : X.cell? ⟨wr.heap.size, 0, none⟩ = some nilS := by rw [hX]; simp
          have x1 : X.cell? ⟨wr.heap.size, 1, none⟩ = some (.int .i64 mk) := by rw [hX]; simp
          have OX := hid (show X.ownsRow 0 67 2 (.slice ao n cap) n (pairV (List.replicate n (nilS, mk))) by rw [hX]; exact HO2.out.alloc _)
          have KX := hid (show KB kb (M + 1) vp' vs X by rw [hX]; exact hK.out.of (Below.heap_alloc _ _ _ kz') (by simp))
          have FX := hid (show Fr (fun k => k = kb ∨ (Value.slice ao n cap).ownBlock = some k) w1 X by rw [hX]; exact hf.out.trans (Fr.below ((Below.refl _ _).alloc (Nat.le_refl _) _)))
          have XS := hid xs
          have HX := hid hX
          clear xs hX
          go_wp2_with (first
            | (at_builtin; rw [← HX.out]; refine wpList_append_keeps rfl _ _ 33 rfl 0 67 i0 (.agg #[.slice none 0 0, .int .i64 0]) 2 32 Tryz.underlying33 hi hz0 hz1 hz2 rfl (by decide) _ _ _ rfl (OX.out.alloc _) ⟨_, 0, none⟩ 1 1 [nilS, .int .i64 mk] rfl rfl (new_at _ _ _ _ (by first | rfl | exact XS.out.symm)) (markS_one mk 1) (by unfold maxLen; omega) (by omega) (Nat.zero_le _) ?_))
          intro v1 y1 O1 G1 A1 V1 H1
          have z1 : X.heap.size < y1.heap.size := by have := G1.out.size; simp at this; omega
          have K1 := hid ((KB.of KX.out (w' := X.alloc _) (Below.heap_alloc _ (.cells #[nilS, .int .i64 mk] 67) _ KX.out.1) (by simp)).gb G1.out VKB.out)
          have F1 := hid (show Fr (fun k => k = kb ∨ (Value.slice ao n cap).ownBlock = some k) w1 y1 from FX.out.trans ((Fr.below ((Below.refl _ _).alloc (Nat.le_refl _) (.cells #[nilS, .int .i64 mk] 67))).trans (Fr.grown G1.out (fun q hq _ => .inr hq))))
          have x01 : y1.cell? ⟨wr.heap.size, 0, none⟩ = some nilS := (World.cell?_of_block (a := ⟨wr.heap.size, 0, none⟩) (G1.out.block wr.heap.size (by simp; have := XS.out; omega) (fun e => by have := VLT.out _ e.symm; omega))).trans ((World.cell?_of_block (a := ⟨wr.heap.size, 0, none⟩) (Below.heap_alloc X _ _ (by have := XS.out; show wr.heap.size < _; omega))).trans x0)
          have x11 : y1.cell? ⟨wr.heap.size, 1, none⟩ = some (.int .i64 mk) := (World.cell?_of_block (a := ⟨wr.heap.size, 1, none⟩) (G1.out.block wr.heap.size (by simp; have := XS.out; omega) (fun e => by have := VLT.out _ e.symm; omega))).trans ((World.cell?_of_block (a := ⟨wr.heap.size, 1, none⟩) (Below.heap_alloc X _ _ (by have := XS.out; show wr.heap.size < _; omega))).trans x1)
          obtain ⟨g1, cap1, hv1, _⟩ := own_src O1.out (by omega)
          subst hv1
          have M1 := hid (own_mkS (n := n + 1) (mark := mk) (by rw [markS_app]; exact O1.out))
          clear HX
          go_wp2_with (first
            | (at_builtin; refine wpList_append_keeps rfl _ _ 33 rfl 0 67 i0 (.agg #[.slice none 0 0, .int .i64 0]) 2 32 Tryz.underlying33 hi hz0 hz1 hz2 rfl (by decide) _ _ _ rfl (V1.out.alloc _) ⟨_, 0, none⟩ 2 2 [nilS, .int .i64 mk, nilS, .int .i64 mk] rfl rfl (new_at _ _ _ _ (by first | rfl | exact XS.out.symm)) (markS_one mk 2) (by unfold maxLen; omega) (by omega) (Nat.zero_le _) ?_))
          intro v2 y2 O2 G2 A2 V2 H2
          have z2 : y1.heap.size < y2.heap.size := by have := G2.out.size; simp at this; omega
          have K2 := hid ((KB.of K1.out (w' := y1.alloc _) (Below.heap_alloc _ (.cells #[nilS, .int .i64 mk, nilS, .int .i64 mk] 67) _ K1.out.1) (by simp)).gb G2.out VKB.out)
          have F2 := hid (show Fr (fun k => k = kb ∨ (Value.slice ao n cap).ownBlock = some k) w1 y2 from F1.out.trans ((Fr.below ((Below.refl _ _).alloc (Nat.le_refl _) (.cells #[nilS, .int .i64 mk, nilS, .int .i64 mk] 67))).trans (Fr.grown G2.out (fun q hq _ => .inr hq))))
          have x02 : y2.cell? ⟨wr.heap.size, 0, none⟩ = some nilS := (World.cell?_of_block (a := ⟨wr.heap.size, 0, none⟩) (G2.out.block wr.heap.size (by simp; have := XS.out; omega) (fun e => by have := VLT.out _ e.symm; omega))).trans ((World.cell?_of_block (a := ⟨wr.heap.size, 0, none⟩) (Below.heap_alloc y1 _ _ (by have := XS.out; show wr.heap.size < _; omega))).trans x01)
          have x12 : y2.cell? ⟨wr.heap.size, 1, none⟩ = some (.int .i64 mk) := (World.cell?_of_block (a := ⟨wr.heap.size, 1, none⟩) (G2.out.block wr.heap.size (by simp; have := XS.out; omega) (fun e => by have := VLT.out _ e.symm; omega))).trans ((World.cell?_of_block (a := ⟨wr.heap.size, 1, none⟩) (Below.heap_alloc y1 _ _ (by have := XS.out; show wr.heap.size < _; omega))).trans x11)
          obtain ⟨g2, cap2, hv2, _⟩ := own_src O2.out (by omega)
          subst hv2
          have M2 := hid (own_mkS (n := n + 2) (mark := mk) (by rw [markS_app]; exact O2.out))
          go_wp2_with (first
            | (at_builtin; refine wpList_append_keeps rfl _ _ 33 rfl 0 67 i0 (.agg #[.slice none 0 0, .int .i64 0]) 2 32 Tryz.underlying33 hi hz0 hz1 hz2 rfl (by decide) _ _ _ rfl (V2.out.alloc _) ⟨_, 0, none⟩ 3 3 [nilS, .int .i64 mk, nilS, .int .i64 mk, nilS, .int .i64 mk] rfl rfl (new_at _ _ _ _ (by first | rfl | exact XS.out.symm)) (markS_one mk 3) (by unfold maxLen; omega) (by omega) (Nat.zero_le _) ?_))
          intro v3 y3 O3 G3 A3 V3 H3
          have z3 : y2.heap.size < y3.heap.size := by have := G3.out.size; simp at this; omega
          have K3 := hid ((KB.of K2.out (w' := y2.alloc _) (Below.heap_alloc _ (.cells #[nilS, .int .i64 mk, nilS, .int .i64 mk, nilS, .int .i64 mk] 67) _ K2.out.1) (by simp)).gb G3.out VKB.out)
          have F3 := hid (show Fr (fun k => k = kb ∨ (Value.slice ao n cap).ownBlock = some k) w1 y3 from F2.out.trans ((Fr.below ((Below.refl _ _).alloc (Nat.le_refl _) (.cells #[nilS, .int .i64 mk, nilS, .int .i64 mk, nilS, .int .i64 mk] 67))).trans (Fr.grown G3.out (fun q hq _ => .inr hq))))
          have x03 : y3.cell? ⟨wr.heap.size, 0, none⟩ = some nilS := (World.cell?_of_block (a := ⟨wr.heap.size, 0, none⟩) (G3.out.block wr.heap.size (by simp; have := XS.out; omega) (fun e => by have := VLT.out _ e.symm; omega))).trans ((World.cell?_of_block (a := ⟨wr.heap.size, 0, none⟩) (Below.heap_alloc y2 _ _ (by have := XS.out; show wr.heap.size < _; omega))).trans x02)
          have x13 : y3.cell? ⟨wr.heap.size, 1, none⟩ = some (.int .i64 mk) := (World.cell?_of_block (a := ⟨wr.heap.size, 1, none⟩) (G3.out.block wr.heap.size (by simp; have := XS.out; omega) (fun e => by have := VLT.out _ e.symm; omega))).trans ((World.cell?_of_block (a := ⟨wr.heap.size, 1, none⟩) (Below.heap_alloc y2 _ _ (by have := XS.out; show wr.heap.size < _; omega))).trans x12)
          obtain ⟨g3, cap3, hv3, _⟩ := own_src O3.out (by omega)
          subst hv3
          have M3 := hid (own_mkS (n := n + 3) (mark := mk) (by rw [markS_app]; exact O3.out))
          have M23 := hid (Mk.appS (n := n) (m := 3) (M2.out.call ((Below.refl _ _).alloc (Nat.le_refl _) _)) G3.out H3.out)
          have M12 := hid (Mk.appS (n := n) (m := 2) (M1.out.call ((Below.refl _ _).alloc (Nat.le_refl _) _)) G2.out H2.out)
          have M13 := hid (Mk.appS (n := n) (m := 3) (M12.out.call ((Below.refl _ _).alloc (Nat.le_refl _) _)) G3.out H3.out)
          have M03 := hid (own_mkS V3.out)
          have hOP := own_fr OB.out.so F3.out (fun k hk => by
            intro hc
            rcases hc with hc | hc
            · subst hc; exact OB.out.a2 hk
            · exact (APL.out k hc).2.2.1 hk)
          have OP := hid hOP
          obtain ⟨kz3, e0, e1, e2, ef⟩ := K3.out
          have e0' : y3.cell? ⟨kb, 0, none⟩ = some (.int .i64 ((M : Int) + 1)) := e0
          have few := OB.out.few
          have n1 : S.length + 1 ≤ maxLen := by unfold maxLen; omega
          have n2 : (S.length + 1) * 104 ≤ 140737488355328 := by omega
          have wm : IntKind.i64.wrap mk = mk := by rw [IntKind.wrap_i64]; omega
          clear hOP e0 ef c0' c1 c2 x0 x1 x01 x11 x02 x12 x03 x13
          go_wp2_with fail
          go_region_law
            ((refine step_append_lies _ (by rfl) _ _ _ (by rfl) 0 48 ip (.agg #[.slice none 0 0, .slice none 0 0, .slice none 0 0, .slice none 0 0, .int .i64 0]) 5 104 Tryz.underlying25 hip hzp0 hzp1 hzp2 rfl (by omega) vs S.length (recsV S) (by rfl) ((OP.out.alloc _).drew) ⟨y3.heap.size, 0, none⟩ 1 1 [.slice ao n cap, .slice (some ⟨g1, 0, none⟩) (n + 1) cap1, .slice (some ⟨g2, 0, none⟩) (n + 2) cap2, .slice (some ⟨g3, 0, none⟩) (n + 3) cap3, .int .i64 mk] (by rfl) (by rfl) (World.news_of_block (cs := #[.slice ao n cap, .slice (some ⟨g1, 0, none⟩) (n + 1) cap1, .slice (some ⟨g2, 0, none⟩) (n + 2) cap2, .slice (some ⟨g3, 0, none⟩) (n + 3) cap3, .int .i64 mk]) (t := 48) (fr := (0, 0)) (heap_alloc_new y3 _)) (by simp [Value.oneCell']) (by omega) n1 n2 (Nat.zero_le _) (y3.heap.size + 1) (by simp) ?_; intro gg capg w4 O4 G4 A4 hlt4; have K4 := hid (show KB kb (M + 1) vp' vs w4 from ((K3.out.of (w' := y3.alloc _) (Below.heap_alloc _ (.cells #[.slice ao n cap, .slice (some ⟨g1, 0, none⟩) (n + 1) cap1, .slice (some ⟨g2, 0, none⟩) (n + 2) cap2, .slice (some ⟨g3, 0, none⟩) (n + 3) cap3, .int .i64 mk] 48) _ K3.out.1) (by simp)).of (w' := (y3.alloc _).drew) rfl (Nat.le_refl _)).gb G4 OB.out.a2); have k42 := K4.out.2.2.2.1; have k4f := K4.out.2.2.2.2 2))
          all_goals go_wp2
          all_goals go_ret
          all_goals
            have e1 : (Value.slice ao n cap).ownBlock = some g1 ∨ w1.heap.size ≤ g1 := by
              rcases A1.out with h | h
              · left; rw [← h]; rfl
              · right; simp [Value.ownBlock] at h; have := XS.out; omega
            have e2 : (Value.slice ao n cap).ownBlock = some g2 ∨ w1.heap.size ≤ g2 := by
              rcases A2.out with h | h
              · left; rw [← h]; rfl
              · right; simp [Value.ownBlock] at h; have := XS.out; omega
            have e3 : (Value.slice ao n cap).ownBlock = some g3 ∨ w1.heap.size ≤ g3 := by
              rcases A3.out with h | h
              · left; rw [← h]; rfl
              · right; simp [Value.ownBlock] at h; have := XS.out; omega
            have l1 := (O1.out.lt g1 rfl).2
            have l2 := (O2.out.lt g2 rfl).2
            have l3 := (O3.out.lt g3 rfl).2
            obtain ⟨vs', r, hob, hfr, hvs⟩ := keep_done (v := .slice ao n cap) (r := ⟨.slice ao n cap, .slice (some ⟨g1, 0, none⟩) (n + 1) cap1, .slice (some ⟨g2, 0, none⟩) (n + 2) cap2, .slice (some ⟨g3, 0, none⟩) (n + 3) cap3, mk⟩) OB.out APL.out F3.out (by
              intro u hu
              simp only [Rec.all, List.mem_cons, List.not_mem_nil, or_false] at hu
              rcases hu with rfl | rfl | rfl | rfl
              · exact M03.out
              · exact M13.out
              · exact M23.out
              · exact M3.out) (by
              intro u hu k hk
              simp only [Rec.all, List.mem_cons, List.not_mem_nil, or_false] at hu
              rcases hu with rfl | rfl | rfl | rfl
              · exact ⟨.inl hk, by have := VLT.out k hk; have := XS.out; omega⟩
              · simp only [Value.ownBlock, Option.some.injEq] at hk; subst hk; exact ⟨e1, by omega⟩
              · simp only [Value.ownBlock, Option.some.injEq] at hk; subst hk; exact ⟨e2, by omega⟩
              · simp only [Value.ownBlock, Option.some.injEq] at hk; subst hk; exact ⟨e3, by omega⟩) O4 G4 A4 K4.out
            refine ⟨rfl, M + 1, vp', vs', P', S ++ [r], hob, by have := EM.out; have := EN.out; omega, (FR.out.imp ?_).trans (hfr.imp ?_), VPB.out, hvs.imp id (fun ⟨q, h1, h2⟩ => ⟨q, h1, Nat.le_trans FR.out.size h2⟩)⟩
            · intro k _ hk
              rcases hk with hk | hk | hk
              · exact .inl hk
              · exact .inr (.inl hk)
              · exact .inr (.inr (.inr (.inr hk)))
            · intro k _ hk
              rcases hk with hk | hk | hk
              · exact .inl hk
              · exact .inr (.inr (.inl hk))
              · exact .inr (.inr (.inr (.inl hk)))
end Go.Proofs.YtljfiefobnncaabGreatDoor

/- outlinelaw: same, of lists of shapes that may be read; a book that was just made. -/
namespace Go.Proofs.YtljfiefobnncaabGreatDoor
open Go.RowKit
attribute [local go_sem ↓] Go.wp_at_zero Go.wp_at_succ

set_option maxRecDepth 4000 in
set_option maxHeartbeats 1000000 in
theorem sameP_any (vl vm : Value) (La Lm : List (Value × List (Int × Int))) (w : World) (hR : La.map (·.2) = Lm.map (·.2)) (ha : ShownP vl La w) (hb : ShownP vm Lm w) (hn1 : La.length ≤ 9223372036854775807) (hm1 : ∀ p ∈ La, p.2.length ≤ 9223372036854775807) :
    Calls Tryz.prog 21 #[vl, vm] w fun e w' => e = .returned (.bool true) ∧ Below w.heap.size w w' := by
  have hlen : La.length = Lm.length := by have := congrArg List.length hR; simpa using this
  obtain ⟨aa, ca, rfl, hra⟩ := ha.row
  obtain ⟨ab, cb, rfl, hrb⟩ := hb.row
  obtain ⟨n, hn⟩ : ∃ n, n = La.length := ⟨_, rfl⟩
  rw [← hlen] at hrb ⊢
  rw [← hn] at hra hrb hn1 ⊢
  have HM1 := hid hm1
  clear hm1
  have HN := hid hn
  have HLEN := hid hlen
  have HRA := hid hra
  have HRB := hid hrb
  have HA := hid ha.pts
  have HB := hid hb.pts
  have HR := hid hR
  clear hn hlen hra hrb ha hb hR
  go_enter Tryz.func21, Tryz.ntmps21
  go_wp2
  go_loopw [5] (fun iv wr => ∃ i : Nat, i ≤ n ∧ iv = .int .i64 i ∧ Below w.heap.size w wr) (fun i _ => n - (intOf i).toNat)
  case atStart => exact ⟨0, by omega, rfl, Below.refl _ _⟩
  case round =>
    obtain ⟨i, hin, rfl, hbl⟩ := hrel
    have BL := hid hbl
    clear hbl
    by_cases hlt : i < n
    · obtain ⟨ga, rfl, hga, hca⟩ := HRA.out.resolve_left (by omega)
      obtain ⟨gb, rfl, hgb, hcb⟩ := HRB.out.resolve_left (by omega)
      have hia : i < La.length := by have := HN.out; omega
      have hib : i < Lm.length := by have := HN.out; have := HLEN.out; omega
      have sa := shpP_at La i hia
      have sb := shpP_at Lm i hib
      have e2 : La[i].2 = Lm[i].2 := by
        have := congrArg (fun l => l[i]?) HR.out
        simpa [hia, hib] using this
      obtain ⟨pa, hpa⟩ : ∃ p, p = La[i] := ⟨_, rfl⟩
      obtain ⟨pb, hpb⟩ : ∃ p, p = Lm[i] := ⟨_, rfl⟩
      obtain ⟨g1, c1, v1, n1, t1⟩ := HA.out pa (by rw [hpa]; exact List.getElem_mem hia)
      obtain ⟨g2, c2, v2, n2, t2⟩ := HB.out pb (by rw [hpb]; exact List.getElem_mem hib)
      rw [← hpa] at sa e2
      rw [← hpb] at sb e2
      rw [← e2] at sb t2 v2 n2
      obtain ⟨m, hm⟩ : ∃ m, m = pa.2.length := ⟨_, rfl⟩
      have mb : m ≤ 9223372036854775807 := by rw [hm]; exact HM1.out pa (by rw [hpa]; exact List.getElem_mem hia)
      obtain ⟨tw, htw⟩ : ∃ tw, tw = Qm.twiceOf pa.2 := ⟨_, rfl⟩
      obtain ⟨ps, hps⟩ : ∃ ps, ps = pa.2 := ⟨_, rfl⟩
      have lps : ps.length = m := by rw [hps, hm]
      rw [← hps] at t1 t2
      rw [v1, ← htw] at sa
      rw [v2, ← htw] at sb
      rw [← hm] at sa sb n1
      have rd : ∀ wx : World, Below w.heap.size w wx → wx.cell? ⟨ga, i * 2, none⟩ = some (.slice (some ⟨g1, 0, none⟩) m c1) ∧ wx.cell? ⟨ga, i * 2 + 1, none⟩ = some (.int .i64 tw) ∧ wx.cell? ⟨gb, i * 2, none⟩ = some (.slice (some ⟨g2, 0, none⟩) m c2) ∧ wx.cell? ⟨gb, i * 2 + 1, none⟩ = some (.int .i64 tw) := fun wx hx =>
        ⟨(hx.cell (p := ⟨ga, i * 2, none⟩) hga).trans (hca _ _ sa.1), (hx.cell (p := ⟨ga, i * 2 + 1, none⟩) hga).trans (hca _ _ sa.2), (hx.cell (p := ⟨gb, i * 2, none⟩) hgb).trans (hcb _ _ sb.1), (hx.cell (p := ⟨gb, i * 2 + 1, none⟩) hgb).trans (hcb _ _ sb.2)⟩
      have RD := hid rd
      have T1 := hid t1
      have T2 := hid t2
      have LPS := hid lps
      have i0' : (0 : Int) ≤ (i : Nat) := by omega
      have i1' : ((i : Nat) : Int) < (n : Nat) := by omega
      clear rd t1 t2 sa sb hpa hpb hm htw hps v1 v2 hca hcb e2 lps n2
      obtain ⟨r0, r1, r2, r3⟩ := RD.out _ BL.out
      go_wp2_with fail
      go_quiet (fail)
      go_wp2
      go_loopw [6] (fun kv wr => ∃ k : Nat, k ≤ m ∧ kv = .int .i64 k ∧ Below w.heap.size w wr) (fun k _ => m - (intOf k).toNat)
      case atStart => exact ⟨0, by omega, rfl, BL.out.trans ⟨rfl, rfl, rfl, Nat.le_refl _, fun _ _ => rfl⟩⟩
      case round =>
        clear r0 r1 r2 r3 BL
        obtain ⟨k, hkm, rfl, hbl⟩ := hrel
        have BL := hid hbl
        clear hbl
        obtain ⟨r0, r1, r2, r3⟩ := RD.out _ BL.out
        by_cases hk : k < m
        · obtain ⟨x0, x1⟩ := (T1.out.on BL.out T1.out.1).2 k (by have := LPS.out; omega)
          obtain ⟨y0, y1⟩ := (T2.out.on BL.out T2.out.1).2 k (by have := LPS.out; omega)
          obtain ⟨⟨px, py⟩, hpp⟩ : ∃ p, p = ps.getD k (0, 0) := ⟨_, rfl⟩
          rw [← hpp] at x0 x1 y0 y1
          dsimp only at x0 x1 y0 y1
          have k0' : (0 : Int) ≤ (k : Nat) := by omega
          have k1' : ((k : Nat) : Int) < (m : Nat) := by omega
          clear hpp
          go_wp2_with fail
          go_quiet (fail)
          go_wp2
          go_roundw
          case rel => exact ⟨k + 1, by omega, by go_num, BL.out.trans ⟨rfl, rfl, rfl, Nat.le_refl _, fun _ _ => rfl⟩⟩
          case measure => simp [intOf]; omega
        · have hk' : ((m : Nat) : Int) ≤ (k : Nat) := by omega
          go_wp2
          go_roundw
          case rel => exact ⟨i + 1, by omega, by go_num, BL.out⟩
          case measure => simp [intOf]; omega
    · have hk' : ((n : Nat) : Int) ≤ (i : Nat) := by omega
      go_wp2
      go_ret
      exact ⟨rfl, BL.out⟩

theorem apP_new {kb N : Nat} {vp vs : Value} {P S : List Rec} {w : World} (h : OBook kb N vp vs P S w) {v : Value} (hv : ∀ k, v.ownBlock = some k → w.heap.size ≤ k) : Ap kb vp vs P S v := fun k hk => by
  have hz := hv k hk
  refine ⟨by have := h.lt; omega, fun e => by have := (h.po.lt k e).2; omega, fun e => by have := (h.so.lt k e).2; omega, fun r hr u hu e => by have := h.old r hr u hu k e; omega⟩

/-- A book that was just made. -/
theorem OBook.newP (kb : Nat) (w : World) (lt : kb < w.heap.size) (c0 : w.cell? ⟨kb, 0, none⟩ = some (.int .i64 (0 : Nat))) (c1 : w.cell? ⟨kb, 1, none⟩ = some (.slice none 0 0)) (c2 : w.cell? ⟨kb, 2, none⟩ = some (.slice none 0 0)) (fz : ∀ j, w.frozen? ⟨kb, j, none⟩ = false) :
    OBook kb 0 (.slice none 0 0) (.slice none 0 0) [] [] w where
  lt := lt
  c0 := c0
  c1 := c1
  c2 := c2
  fz := fz
  po := World.ownsRow_nil _ _ _ _
  so := World.ownsRow_nil _ _ _ _
  mp := by simp
  ms := by simp
  a1 := by simp [Value.ownBlock]
  a2 := by simp [Value.ownBlock]
  a3 := by simp [Value.ownBlock]
  far := by simp
  old := by simp
  few := by simp

end Go.Proofs.YtljfiefobnncaabGreatDoor

/- A line that fits: the same whichever way one counts, and whichever middles one looks at. Nothing of the program stands here. -/
namespace Go.Proofs.YtljfiefobnncaabGreatDoor.Qm

/-- The next point of a closed row. -/
def nxP (l : List Pt) (i : Nat) : Pt := l.getD ((i + 1) % l.length) (0, 0)
/-- Sums over the lines, from either end. -/
def fsE (e : Pt → Pt → Int) (l : List Pt) : Nat → Int
  | 0 => 0
  | k + 1 => fsE e l k + e (l.getD k (0, 0)) (nxP l k)
def bsE (e : Pt → Pt → Int) (l : List Pt) : Nat → Int
  | 0 => 0
  | k + 1 => bsE e l k + e (pr l k) (l.getD k (0, 0))
theorem nxP_lt (l : List Pt) (i : Nat) (h : i + 1 < l.length) : nxP l i = l.getD (i + 1) (0, 0) := by unfold nxP; rw [Nat.mod_eq_of_lt h]
theorem nxP_last (l : List Pt) (h : 0 < l.length) : nxP l (l.length - 1) = l.getD 0 (0, 0) := by unfold nxP; rw [Nat.sub_add_cancel h, Nat.mod_self]
theorem bsE_fsE (e : Pt → Pt → Int) (l : List Pt) (k : Nat) (hk : k < l.length) : bsE e l (k + 1) = fsE e l k + e (pr l 0) (l.getD 0 (0, 0)) := by
  induction k with
  | zero => simp [bsE, fsE]
  | succ k ih =>
    have := ih (by omega)
    rw [bsE, this, fsE, pr_succ l k (by omega), nxP_lt l k hk]; omega
theorem bsE_all (e : Pt → Pt → Int) (l : List Pt) (h : 0 < l.length) : bsE e l l.length = fsE e l l.length := by
  obtain ⟨n, hn⟩ : ∃ n, l.length = n + 1 := ⟨l.length - 1, by omega⟩
  have a := bsE_fsE e l n (by omega)
  have b := nxP_last l h
  rw [hn] at b ⊢
  simp only [Nat.add_sub_cancel] at b
  rw [a, fsE, b, pr_zero l h, hn]
  simp
theorem wsum_bsE (l : List Pt) (x y : Int) (k : Nat) : wsum l x y k = bsE (fun p q => wdZ p q x y) l k := by
  induction k with
  | zero => rfl
  | succ k ih => simp only [wsum, bsE, ih]
theorem fsE_tele (φ : Pt → Int) (l : List Pt) (h : 0 < l.length) : fsE (fun p q => φ p - φ q) l l.length = 0 := by
  have key : ∀ k, k < l.length → fsE (fun p q => φ p - φ q) l k = φ (l.getD 0 (0, 0)) - φ (l.getD k (0, 0)) := by
    intro k
    induction k with
    | zero => intro _; simp [fsE]
    | succ k ih => intro hk; rw [fsE, ih (by omega), nxP_lt l k hk]; omega
  obtain ⟨n, hn⟩ : ∃ n, l.length = n + 1 := ⟨l.length - 1, by omega⟩
  have b := nxP_last l h
  have c := key n (by omega)
  rw [hn] at b ⊢
  simp only [Nat.add_sub_cancel] at b
  rw [fsE, c, b]; omega
theorem fsE_congr {e f : Pt → Pt → Int} {l : List Pt} {n : Nat} (h : ∀ i, i < n → e (l.getD i (0, 0)) (nxP l i) = f (l.getD i (0, 0)) (nxP l i)) : fsE e l n = fsE f l n := by
  induction n with
  | zero => rfl
  | succ n ih => rw [fsE, fsE, ih fun i hi => h i (by omega), h n (by omega)]
theorem fsE_sub (e f : Pt → Pt → Int) (l : List Pt) (n : Nat) : fsE (fun p q => e p q - f p q) l n = fsE e l n - fsE f l n := by
  induction n with
  | zero => rfl
  | succ n ih => simp only [fsE, ih]; omega
theorem fsE_zero {e : Pt → Pt → Int} {l : List Pt} {n : Nat} (h : ∀ i, i < n → e (l.getD i (0, 0)) (nxP l i) = 0) : fsE e l n = 0 := by
  induction n with
  | zero => rfl
  | succ n ih => rw [fsE, ih fun i hi => h i (by omega), h n (by omega)]; rfl

/-- Counted above and counted to the right. -/
theorem ab_ws {l : List Pt} {x y : Int} (h0 : 0 < l.length) (h : ∀ i, i < l.length → thB (l.getD i (0, 0)) (nxP l i) x y = false) : fsE (fun p q => abZ p q x y) l l.length = wsum l x y l.length := by
  rw [wsum_bsE, bsE_all _ _ h0]
  have a := fsE_sub (fun p q => abZ p q x y) (fun p q => wdZ p q x y) l l.length
  have b : fsE (fun p q => abZ p q x y - wdZ p q x y) l l.length = fsE (fun p q => qd x y p - qd x y q) l l.length := fsE_congr fun i hi => ab_wd _ _ x y (h i hi)
  rw [b, fsE_tele _ _ h0] at a
  omega

/-- One pixel's length. -/
def unitP (p q : Pt) : Prop := (p.1 = q.1 ∧ (q.2 = p.2 + 1 ∨ q.2 = p.2 - 1)) ∨ (p.2 = q.2 ∧ (q.1 = p.1 + 1 ∨ q.1 = p.1 - 1))
def Unit (l : List Pt) : Prop := ∀ i, i + 1 < l.length → unitP (l.getD i (0, 0)) (l.getD (i + 1) (0, 0))
theorem th_unit {p q : Pt} (h : unitP p q) (x y : Int) : thB p q x y = false := by
  cases e : thB p q x y with
  | false => rfl
  | true =>
    exfalso
    obtain ⟨r, f⟩ := (thB_iff p q x y).1 e
    rcases h with ⟨h1, h2⟩ | ⟨h1, h2⟩
    · unfold farZ at f
      rw [show q.1 - p.1 = 0 from by omega, Int.mul_zero] at f
      rcases h2 with h2 | h2
      · rw [show q.2 - p.2 = 1 from by omega] at f; omega
      · rw [show q.2 - p.2 = -1 from by omega] at f; omega
    · omega
theorem Unit.near {l : List Pt} (h : Unit l) (i : Nat) (hi : i < l.length) : -(i : Int) ≤ (l.getD i (0, 0)).1 - (l.getD 0 (0, 0)).1 ∧ (l.getD i (0, 0)).1 - (l.getD 0 (0, 0)).1 ≤ i ∧ -(i : Int) ≤ (l.getD i (0, 0)).2 - (l.getD 0 (0, 0)).2 ∧ (l.getD i (0, 0)).2 - (l.getD 0 (0, 0)).2 ≤ i := by
  induction i with
  | zero => simp
  | succ i ih =>
    have a := ih (by omega)
    have b := h i hi
    unfold unitP at b
    omega
/-- No line goes through but, maybe, the last. -/
theorem Unit.th {l : List Pt} (h : Unit l) (h0 : 0 < l.length) {x y : Int} (ht : thB (lstP l) (fstP l) x y = false) (i : Nat) (hi : i < l.length) : thB (l.getD i (0, 0)) (nxP l i) x y = false := by
  rcases Nat.lt_or_ge (i + 1) l.length with h1 | h1
  · rw [nxP_lt l i h1]; exact th_unit (h i h1) x y
  · obtain rfl : i = l.length - 1 := by omega
    rw [nxP_last l h0]; exact ht
theorem okAt_iff (l : List Pt) (x y : Int) : okAt l x y = true ↔ thB (lstP l) (fstP l) x y = false ∧ wsum l x y l.length = 0 := by
  unfold okAt; rw [Bool.and_eq_true, decide_eq_true_eq]; simp
/-- As the document's answer asks it. -/
def cleanP (l : List Pt) (x y : Int) : Prop := (∀ i, i < l.length → thR (l.getD i (0, 0)) (nxP l i) x y = false) ∧ fsE (fun p q => abZ p q x y) l l.length = 0
theorem Unit.clean {l : List Pt} (h : Unit l) (h0 : 0 < l.length) (x y : Int) : cleanP l x y ↔ okAt l x y = true := by
  rw [okAt_iff]
  constructor
  · rintro ⟨h1, h2⟩
    have e : ∀ i, i < l.length → thB (l.getD i (0, 0)) (nxP l i) x y = false := fun i hi => by rw [← th_same]; exact h1 i hi
    rw [ab_ws h0 e] at h2
    have t := e (l.length - 1) (by omega)
    rw [nxP_last l h0] at t
    exact ⟨t, h2⟩
  · rintro ⟨h1, h2⟩
    have e := h.th h0 h1
    exact ⟨fun i hi => by rw [th_same]; exact e i hi, by rw [ab_ws h0 e]; exact h2⟩

theorem getD_mem {l : List Pt} {i : Nat} (h : i < l.length) : l.getD i (0, 0) ∈ l := by
  rw [List.getD_eq_getElem?_getD, List.getElem?_eq_getElem h]; exact List.getElem_mem h
/-- Beyond the bounds all is well. -/
theorem ok_out {l : List Pt} (h0 : 0 < l.length) {x y : Int} (h : (∀ i, i < l.length → x < (l.getD i (0, 0)).1) ∨ (∀ i, i < l.length → (l.getD i (0, 0)).1 ≤ x) ∨ (∀ i, i < l.length → y < (l.getD i (0, 0)).2) ∨ (∀ i, i < l.length → (l.getD i (0, 0)).2 ≤ y)) : okAt l x y = true := by
  have nx : ∀ i, i < l.length → ∃ j, j < l.length ∧ nxP l i = l.getD j (0, 0) := fun i _ => ⟨_, Nat.mod_lt _ h0, rfl⟩
  -- no two of the points have the middle between them
  have two : ∀ i j, i < l.length → j < l.length → thB (l.getD i (0, 0)) (l.getD j (0, 0)) x y = false ∧ ((∀ i, i < l.length → x < (l.getD i (0, 0)).1) ∨ (∀ i, i < l.length → (l.getD i (0, 0)).1 ≤ x) → abZ (l.getD i (0, 0)) (l.getD j (0, 0)) x y = 0) ∧ (¬ ((∀ i, i < l.length → x < (l.getD i (0, 0)).1) ∨ (∀ i, i < l.length → (l.getD i (0, 0)).1 ≤ x)) → wdZ (l.getD i (0, 0)) (l.getD j (0, 0)) x y = 0) := by
    intro i j hi hj
    obtain ⟨A, B, C, D, _, _, h3, hA, hB, _, _⟩ := cr_signs (l.getD i (0, 0)) (l.getD j (0, 0)) x y
    refine ⟨?_, ?_, ?_⟩
    · cases e : thB (l.getD i (0, 0)) (l.getD j (0, 0)) x y with
      | false => rfl
      | true =>
        exfalso
        have t := (thB_iff _ _ x y).1 e
        rcases h with h | h | h | h
        · have a := h i hi; have b := h j hj; omega
        · have a := h i hi; have b := h j hj; omega
        · have a := h i hi; have b := h j hj; omega
        · have a := h i hi; have b := h j hj; omega
    · rintro (h | h)
      · have a := h i hi; have b := h j hj
        unfold abZ; rw [if_neg (by omega), if_neg (by omega)]
      · have a := h i hi; have b := h j hj
        unfold abZ; rw [if_neg (by omega), if_neg (by omega)]
    · intro hn
      rw [wdZ_eq]
      rcases h with h | h | h | h
      · exact absurd (.inl h) hn
      · exact absurd (.inr h) hn
      · have a := h i hi; have b := h j hj
        rw [if_neg (by omega), if_neg (by omega)]
      · have a := h i hi; have b := h j hj
        rw [if_neg (by omega), if_neg (by omega)]
  rw [okAt_iff]
  refine ⟨(two _ _ (show l.length - 1 < l.length by omega) h0).1, ?_⟩
  by_cases hx : (∀ i, i < l.length → x < (l.getD i (0, 0)).1) ∨ (∀ i, i < l.length → (l.getD i (0, 0)).1 ≤ x)
  · rw [← ab_ws h0 fun i hi => by obtain ⟨j, hj, e⟩ := nx i hi; rw [e]; exact (two i j hi hj).1]
    exact fsE_zero fun i hi => by obtain ⟨j, hj, e⟩ := nx i hi; rw [e]; exact (two i j hi hj).2.1 hx
  · rw [wsum_bsE, bsE_all _ _ h0]
    exact fsE_zero fun i hi => by obtain ⟨j, hj, e⟩ := nx i hi; rw [e]; exact (two i j hi hj).2.2 hx
/-- Within the bounds, or everywhere. -/
theorem fit_all {l : List Pt} (h0 : 0 < l.length) : fitB l = true ↔ ∀ x y, okAt l x y = true := by
  constructor
  · intro h x y
    have lx := loF_le Prod.fst l l.length
    have ly := loF_le Prod.snd l l.length
    have hx := le_hiF Prod.fst l l.length
    have hy := le_hiF Prod.snd l l.length
    rcases Int.lt_or_le x (loF Prod.fst l l.length) with a | a
    · exact ok_out h0 (.inl fun i hi => by have := lx i hi; omega)
    rcases Int.lt_or_le x (hiF Prod.fst l l.length) with b | b
    · rcases Int.lt_or_le y (loF Prod.snd l l.length) with c | c
      · exact ok_out h0 (.inr (.inr (.inl fun i hi => by have := ly i hi; omega)))
      rcases Int.lt_or_le y (hiF Prod.snd l l.length) with d | d
      · exact (fitB_iff l).1 h x y a b c d
      · exact ok_out h0 (.inr (.inr (.inr fun i hi => by have := hy i hi; omega)))
    · exact ok_out h0 (.inr (.inl fun i hi => by have := hx i hi; omega))
  · intro h
    exact (fitB_iff l).2 fun x y _ _ _ _ => h x y
theorem fit_two {l : List Pt} (h : Unit l) (h2 : l.length = 2) : fitB l = true := by
  refine (fitB_iff l).2 fun x y a b c d => ?_
  exfalso
  have u := h 0 (by omega)
  unfold unitP at u
  rw [h2] at a b c d
  simp only [loF, hiF] at a b c d
  simp only [Nat.zero_add] at u
  repeat' split at a
  all_goals repeat' split at b
  all_goals repeat' split at c
  all_goals repeat' split at d
  all_goals omega
/-- It is enough to look near the first point. -/
theorem Unit.fit_near {l : List Pt} (h : Unit l) (h0 : 0 < l.length) (h13 : l.length ≤ 13) (hn : ∀ x y, (l.getD 0 (0, 0)).1 - 12 ≤ x → x < (l.getD 0 (0, 0)).1 + 12 → (l.getD 0 (0, 0)).2 - 12 ≤ y → y < (l.getD 0 (0, 0)).2 + 12 → okAt l x y = true) : fitB l = true := by
  refine (fitB_iff l).2 fun x y a b c d => ?_
  obtain ⟨i1, k1, e1⟩ := loF_at Prod.fst l l.length
  obtain ⟨i2, k2, e2⟩ := hiF_at Prod.fst l l.length
  obtain ⟨i3, k3, e3⟩ := loF_at Prod.snd l l.length
  obtain ⟨i4, k4, e4⟩ := hiF_at Prod.snd l l.length
  have n1 := h.near i1 (by omega)
  have n2 := h.near i2 (by omega)
  have n3 := h.near i3 (by omega)
  have n4 := h.near i4 (by omega)
  rw [e1] at a; rw [e2] at b; rw [e3] at c; rw [e4] at d
  exact hn x y (by omega) (by omega) (by omega) (by omega)
/-- The document's answer. -/
theorem Unit.fit_ref {l : List Pt} (h : Unit l) (h0 : 2 ≤ l.length) (h13 : l.length ≤ 13) : fitB l = true ↔ (l.length = 2 ∨ ∀ x y, (l.getD 0 (0, 0)).1 - 13 ≤ x → x ≤ (l.getD 0 (0, 0)).1 + 13 → (l.getD 0 (0, 0)).2 - 13 ≤ y → y ≤ (l.getD 0 (0, 0)).2 + 13 → cleanP l x y) := by
  constructor
  · intro hf
    exact .inr fun x y _ _ _ _ => (h.clean (by omega) x y).2 ((fit_all (by omega)).1 hf x y)
  · rintro (h2 | h2)
    · exact fit_two h h2
    · exact h.fit_near (by omega) h13 fun x y a b c d => (h.clean (by omega) x y).1 (h2 x y (by omega) (by omega) (by omega) (by omega))
end Go.Proofs.YtljfiefobnncaabGreatDoor.Qm
