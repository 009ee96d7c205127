/- outlinelaw: mine, walked. -/
import Derived.Test.YtljfiefobnncaaaDoorK33
namespace Go.Proofs.YtljfiefobnncaaaDoor
open Go.RowKit
attribute [local go_sem ↓] Go.wp_at_zero Go.wp_at_succ

set_option maxRecDepth 4000 in
set_option maxHeartbeats 2000000 in
theorem mine_any (kb N : Nat) (vp vs : Value) (P S : List Rec) (gv n cap : Nat) (l0 : List (Int × Int)) (w : World) (hO : OBook kb N vp vs P S w) (hv : w.ownsRow 0 83 2 (.slice (some ⟨gv, 0, none⟩) n cap) n (Qm.ptsV l0)) (hl : l0.length = n)
    (hN : N ≤ 2000000000) (hn : n ≤ 1000000000) (b1 : gv ≠ kb) (b2 : vp.ownBlock ≠ some gv) (b3 : vs.ownBlock ≠ some gv) (b4 : ∀ r, r ∈ P ∨ r ∈ S → ∀ u ∈ r.all, u.ownBlock ≠ some gv) :
    Calls Tryd.prog 52 #[.pointer (some ⟨kb, 0, none⟩), .slice (some ⟨gv, 0, none⟩) n cap] w fun e w' => e = .returned (.tuple #[]) ∧ ∃ vp' r, OBook kb (N + 1) vp' vs (P ++ [r]) S w' ∧ Fr (fun k => k = kb ∨ vp.ownBlock = some k ∨ k = gv) w w' ∧
      (vp'.ownBlock = vp.ownBlock ∨ ∃ q, vp'.ownBlock = some q ∧ w.heap.size ≤ q) ∧ ∀ u ∈ r.all, ∀ k, u.ownBlock = some k → k = gv ∨ w.heap.size ≤ k := by
  obtain ⟨i0, hi, hz0, hz1, hz2⟩ := info_parts infoPoint
  obtain ⟨ip, hip, hzp0, hzp1, hzp2⟩ := info_parts infoPts
  have HO := hid hO
  have HV := hid hv
  have HL := hid hl
  have c0 := hO.c0
  have c1 := hO.c1
  have f0 := hO.fz 0
  have f1 := hO.fz 1
  have kz := hO.lt
  have gz : gv < w.heap.size := (hv.lt gv rfl).2
  obtain ⟨mk, hmk⟩ : ∃ mk : Int, (1000 : Int) + ((N : Int) + 1) = mk := ⟨_, rfl⟩
  have mk1 : 0 ≤ mk ∧ mk ≤ 4000000000 := by omega
  clear hO hv hl
  go_enter Tryd.func52, Tryd.ntmps52
  go_wp2
  have K0 : KB kb (N + 1) vp vs (w.setCell ⟨kb, 0, none⟩ (.int .i64 ((N : Int) + 1))) := KB.set0 (N := N) ⟨kz, HO.out.c0, HO.out.c1, HO.out.c2, HO.out.fz⟩ (N + 1)
  have HK0 := hid K0
  have hO0 := hid (show (w.setCell ⟨kb, 0, none⟩ (.int .i64 ((N : Int) + 1))).ownsRow 0 83 2 (.slice (some ⟨gv, 0, none⟩) n cap) n (Qm.ptsV (fillTo l0 (mk, 0) 0)) by
    have := own_fr (C := fun k => k = kb) HV.out (w' := w.setCell ⟨kb, 0, none⟩ (.int .i64 ((N : Int) + 1))) (Fr.set rfl) (fun k hk => by simp [Value.ownBlock] at hk; omega)
    simpa [fillTo] using this)
  clear K0
  go_loopw [4] (fun iv wr => ∃ i : Nat, i ≤ n ∧ iv = .int .i64 i ∧ Hid (wr.ownsRow 0 83 2 (.slice (some ⟨gv, 0, none⟩) n cap) n (Qm.ptsV (fillTo l0 (mk, 0) i))) ∧ Hid (Fr (fun k => k = kb ∨ k = gv) w wr) ∧ Hid (KB kb (N + 1) vp vs wr)) (fun i _ => n - (intOf i).toNat)
  case atStart => exact ⟨0, by omega, rfl, hO0, Fr.set (.inl rfl), HK0⟩
  case round =>
    clear hO0 HK0 c0 c1 f0 f1
    obtain ⟨i, hin, rfl, ho, hf, hK⟩ := hrel
    obtain ⟨kz', c0, c1, c2, fz⟩ := hK.out
    have f1 := fz 1
    have c0' : wr.cell? ⟨kb, 0, none⟩ = some (.int .i64 ((N : Int) + 1)) := c0
    clear c0
    by_cases hlt : i < n
    · have lf := fillTo_len l0 (mk, 0) i (by rw [HL.out]; omega)
      have pa := ptsV_at (fillTo l0 (mk, 0) i) i (by rw [lf, HL.out]; exact hlt)
      have q0 := ho.out.cells (g := gv) rfl _ _ pa.1
      have q1 := ho.out.cells (g := gv) rfl _ _ pa.2
      rw [add_zero_at] at q0 q1
      have r0 := own_frozen ho.out (i * 2)
      have r1 := own_frozen ho.out (i * 2 + 1)
      have o2 := own_set (own_set ho.out (i * 2) (.int .i64 mk)) (i * 2 + 1) (.int .i64 0)
      rw [ptsV_set _ (mk, 0) i (by rw [lf, HL.out]; exact hlt), fillTo_succ _ _ _ (by rw [HL.out]; exact hlt)] at o2
      have O2 := hid o2
      have i0' : (0 : Int) ≤ (i : Nat) := by omega
      have i1' : ((i : Nat) : Int) < (n : Nat) := by omega
      have nb : gv ≠ kb := b1
      clear pa lf o2 fz
      go_wp2
      go_roundw
      case rel => exact ⟨i + 1, by omega, by go_num, O2, hf.out.trans ((Fr.set (.inr rfl)).trans (Fr.set (.inr rfl))), (hK.out.set _ b1).set _ b1⟩
      case measure => simp [intOf]; omega
    · have hk' : ((n : Nat) : Int) ≤ (i : Nat) := by omega
      have ei : i = n := by omega
      have ho2 := ho.out
      rw [ei, show fillTo l0 (mk, 0) n = List.replicate n (mk, 0) by unfold fillTo; rw [List.drop_eq_nil_of_le (by rw [HL.out]; exact Nat.le_refl _), List.append_nil]] at ho2
      have HO2 := hid ho2
      have zf := hf.out.size
      clear ho2 ho fz
      obtain ⟨X, hX⟩ : ∃ X, X = wr.alloc (.cells #[.int .i64 mk, .int .i64 0] 83) := ⟨_, rfl⟩
      have xs : X.heap.size = wr.heap.size + 1 := by rw [hX]; simp
      have x0 : X.cell? ⟨wr.heap.size, 0, none⟩ = some (.int .i64 mk) := by rw [hX]; simp
      have x1 : X.cell? ⟨wr.heap.size, 1, none⟩ = some (.int .i64 0) := by rw [hX]; simp
      have OX := hid (show X.ownsRow 0 83 2 (.slice (some ⟨gv, 0, none⟩) n cap) n (Qm.ptsV (List.replicate n (mk, 0))) by rw [hX]; exact HO2.out.alloc _)
      have KX := hid (show KB kb (N + 1) vp vs X by rw [hX]; exact hK.out.of (Below.heap_alloc _ _ _ kz') (by simp))
      have FX := hid (show Fr (fun k => k = kb ∨ k = gv) w X by rw [hX]; exact hf.out.trans (Fr.below ((Below.refl _ _).alloc (Nat.le_refl _) _)))
      have XS := hid xs
      have HX := hid hX
      clear xs hX
      go_wp2_with (first
        | (at_builtin; rw [← HX.out]; refine wpList_append_keeps rfl _ _ 62 rfl 0 83 i0 (.agg #[.int .i64 0, .int .i64 0]) 2 16 Tryd.underlying62 hi hz0 hz1 hz2 rfl (by decide) _ _ _ rfl (OX.out.alloc _) ⟨_, 0, none⟩ 1 1 [.int .i64 mk, .int .i64 0] rfl rfl (new_at _ _ _ _ (by first | rfl | exact XS.out.symm)) (marks_one mk 1) (by unfold maxLen; omega) (by omega) (Nat.zero_le _) ?_))
      intro v1 w1 O1 G1 A1 V1 H1
      have z1 : X.heap.size < w1.heap.size := by have := G1.out.size; simp at this; omega
      have K1 := hid ((KB.of KX.out (w' := X.alloc _) (Below.heap_alloc _ (.cells #[.int .i64 mk, .int .i64 0] 83) _ KX.out.1) (by simp)).gb G1.out (by simp [Value.ownBlock]; omega))
      have F1 := hid (show Fr (fun k => k = kb ∨ k = gv) w w1 from FX.out.trans ((Fr.below ((Below.refl _ _).alloc (Nat.le_refl _) (.cells #[.int .i64 mk, .int .i64 0] 83))).trans (Fr.grown G1.out (fun q hq _ => .inr (by simp [Value.ownBlock] at hq; omega)))))
      have y01 : w1.cell? ⟨wr.heap.size, 0, none⟩ = some (.int .i64 mk) := (World.cell?_of_block (a := ⟨wr.heap.size, 0, none⟩) (G1.out.block wr.heap.size (by simp; have := XS.out; omega) (by simp [Value.ownBlock]; omega))).trans ((World.cell?_of_block (a := ⟨wr.heap.size, 0, none⟩) (Below.heap_alloc X _ _ (by have := XS.out; show wr.heap.size < _; omega))).trans x0)
      have y11 : w1.cell? ⟨wr.heap.size, 1, none⟩ = some (.int .i64 0) := (World.cell?_of_block (a := ⟨wr.heap.size, 1, none⟩) (G1.out.block wr.heap.size (by simp; have := XS.out; omega) (by simp [Value.ownBlock]; omega))).trans ((World.cell?_of_block (a := ⟨wr.heap.size, 1, none⟩) (Below.heap_alloc X _ _ (by have := XS.out; show wr.heap.size < _; omega))).trans x1)
      obtain ⟨g1, cap1, hv1, _⟩ := own_src O1.out (by omega)
      subst hv1
      have M1 := hid (own_mk (n := n + 1) (mark := mk) (by rw [marks_app]; exact O1.out))
      clear HX
      go_wp2_with (first
        | (at_builtin; refine wpList_append_keeps rfl _ _ 62 rfl 0 83 i0 (.agg #[.int .i64 0, .int .i64 0]) 2 16 Tryd.underlying62 hi hz0 hz1 hz2 rfl (by decide) _ _ _ rfl (V1.out.alloc _) ⟨_, 0, none⟩ 2 2 [.int .i64 mk, .int .i64 0, .int .i64 mk, .int .i64 0] rfl rfl (new_at _ _ _ _ (by first | rfl | exact XS.out.symm)) (marks_one mk 2) (by unfold maxLen; omega) (by omega) (Nat.zero_le _) ?_))
      intro v2 w2 O2 G2 A2 V2 H2
      have z2 : w1.heap.size < w2.heap.size := by have := G2.out.size; simp at this; omega
      have K2 := hid ((KB.of K1.out (w' := w1.alloc _) (Below.heap_alloc _ (.cells #[.int .i64 mk, .int .i64 0, .int .i64 mk, .int .i64 0] 83) _ K1.out.1) (by simp)).gb G2.out (by simp [Value.ownBlock]; omega))
      have F2 := hid (show Fr (fun k => k = kb ∨ k = gv) w w2 from F1.out.trans ((Fr.below ((Below.refl _ _).alloc (Nat.le_refl _) (.cells #[.int .i64 mk, .int .i64 0, .int .i64 mk, .int .i64 0] 83))).trans (Fr.grown G2.out (fun q hq _ => .inr (by simp [Value.ownBlock] at hq; omega)))))
      have y02 : w2.cell? ⟨wr.heap.size, 0, none⟩ = some (.int .i64 mk) := (World.cell?_of_block (a := ⟨wr.heap.size, 0, none⟩) (G2.out.block wr.heap.size (by simp; have := XS.out; omega) (by simp [Value.ownBlock]; omega))).trans ((World.cell?_of_block (a := ⟨wr.heap.size, 0, none⟩) (Below.heap_alloc w1 _ _ (by have := XS.out; show wr.heap.size < _; omega))).trans y01)
      have y12 : w2.cell? ⟨wr.heap.size, 1, none⟩ = some (.int .i64 0) := (World.cell?_of_block (a := ⟨wr.heap.size, 1, none⟩) (G2.out.block wr.heap.size (by simp; have := XS.out; omega) (by simp [Value.ownBlock]; omega))).trans ((World.cell?_of_block (a := ⟨wr.heap.size, 1, none⟩) (Below.heap_alloc w1 _ _ (by have := XS.out; show wr.heap.size < _; omega))).trans y11)
      obtain ⟨g2, cap2, hv2, _⟩ := own_src O2.out (by omega)
      subst hv2
      have M2 := hid (own_mk (n := n + 2) (mark := mk) (by rw [marks_app]; exact O2.out))
      go_wp2_with (first
        | (at_builtin; refine wpList_append_keeps rfl _ _ 62 rfl 0 83 i0 (.agg #[.int .i64 0, .int .i64 0]) 2 16 Tryd.underlying62 hi hz0 hz1 hz2 rfl (by decide) _ _ _ rfl (V2.out.alloc _) ⟨_, 0, none⟩ 3 3 [.int .i64 mk, .int .i64 0, .int .i64 mk, .int .i64 0, .int .i64 mk, .int .i64 0] rfl rfl (new_at _ _ _ _ (by first | rfl | exact XS.out.symm)) (marks_one mk 3) (by unfold maxLen; omega) (by omega) (Nat.zero_le _) ?_))
      intro v3 w3 O3 G3 A3 V3 H3
      have z3 : w2.heap.size < w3.heap.size := by have := G3.out.size; simp at this; omega
      have K3 := hid ((KB.of K2.out (w' := w2.alloc _) (Below.heap_alloc _ (.cells #[.int .i64 mk, .int .i64 0, .int .i64 mk, .int .i64 0, .int .i64 mk, .int .i64 0] 83) _ K2.out.1) (by simp)).gb G3.out (by simp [Value.ownBlock]; omega))
      have F3 := hid (show Fr (fun k => k = kb ∨ k = gv) w w3 from F2.out.trans ((Fr.below ((Below.refl _ _).alloc (Nat.le_refl _) (.cells #[.int .i64 mk, .int .i64 0, .int .i64 mk, .int .i64 0, .int .i64 mk, .int .i64 0] 83))).trans (Fr.grown G3.out (fun q hq _ => .inr (by simp [Value.ownBlock] at hq; omega)))))
      have y03 : w3.cell? ⟨wr.heap.size, 0, none⟩ = some (.int .i64 mk) := (World.cell?_of_block (a := ⟨wr.heap.size, 0, none⟩) (G3.out.block wr.heap.size (by simp; have := XS.out; omega) (by simp [Value.ownBlock]; omega))).trans ((World.cell?_of_block (a := ⟨wr.heap.size, 0, none⟩) (Below.heap_alloc w2 _ _ (by have := XS.out; show wr.heap.size < _; omega))).trans y02)
      have y13 : w3.cell? ⟨wr.heap.size, 1, none⟩ = some (.int .i64 0) := (World.cell?_of_block (a := ⟨wr.heap.size, 1, none⟩) (G3.out.block wr.heap.size (by simp; have := XS.out; omega) (by simp [Value.ownBlock]; omega))).trans ((World.cell?_of_block (a := ⟨wr.heap.size, 1, none⟩) (Below.heap_alloc w2 _ _ (by have := XS.out; show wr.heap.size < _; omega))).trans y12)
      obtain ⟨g3, cap3, hv3, _⟩ := own_src O3.out (by omega)
      subst hv3
      have M3 := hid (own_mk (n := n + 3) (mark := mk) (by rw [marks_app]; exact O3.out))
      have M23 := hid (Mk.app (n := n) (m := 3) (M2.out.call ((Below.refl _ _).alloc (Nat.le_refl _) _)) G3.out H3.out)
      have M12 := hid (Mk.app (n := n) (m := 2) (M1.out.call ((Below.refl _ _).alloc (Nat.le_refl _) _)) G2.out H2.out)
      have M13 := hid (Mk.app (n := n) (m := 3) (M12.out.call ((Below.refl _ _).alloc (Nat.le_refl _) _)) G3.out H3.out)
      have M03 := hid (own_mk V3.out)
      have hOP := own_fr HO.out.po F3.out (fun k hk => by
        intro hc
        rcases hc with hc | hc
        · subst hc; exact HO.out.a1 hk
        · subst hc; exact b2 hk)
      have OP := hid hOP
      obtain ⟨kz3, e0, e1, e2, ef⟩ := K3.out
      have e0' : w3.cell? ⟨kb, 0, none⟩ = some (.int .i64 ((N : Int) + 1)) := e0
      have ef1 := ef 1
      have few := HO.out.few
      have n1 : P.length + 1 ≤ maxLen := by unfold maxLen; omega
      have n2 : (P.length + 1) * 104 ≤ 140737488355328 := by omega
      clear hOP e0 ef c0' c1 c2 f1 x0 x1 y01 y11 y02 y12 y03 y13
      obtain ⟨aop, capp, hvp, _⟩ := own_cap OP.out
      have HVP := hid hvp
      have wm : IntKind.i64.wrap mk = mk := by rw [IntKind.wrap_i64]; omega
      clear hvp
      go_wp2_with fail
      go_region_law
        ((refine step_append_lies _ (by rfl) _ _ _ (by rfl) 0 64 ip (.agg #[.slice none 0 0, .slice none 0 0, .slice none 0 0, .slice none 0 0, .int .i64 0]) 5 104 Tryd.underlying37 hip hzp0 hzp1 hzp2 rfl (by omega) vp P.length (recsV P) (by rfl) ((OP.out.alloc _).drew) ⟨w3.heap.size, 0, none⟩ 1 1 [.slice (some ⟨gv, 0, none⟩) n cap, .slice (some ⟨g1, 0, none⟩) (n + 1) cap1, .slice (some ⟨g2, 0, none⟩) (n + 2) cap2, .slice (some ⟨g3, 0, none⟩) (n + 3) cap3, .int .i64 mk] (by rfl) (by rfl) (World.news_of_block (cs := #[.slice (some ⟨gv, 0, none⟩) n cap, .slice (some ⟨g1, 0, none⟩) (n + 1) cap1, .slice (some ⟨g2, 0, none⟩) (n + 2) cap2, .slice (some ⟨g3, 0, none⟩) (n + 3) cap3, .int .i64 mk]) (t := 64) (fr := (0, 0)) (heap_alloc_new w3 _)) (by simp [Value.oneCell']) (by omega) n1 n2 (Nat.zero_le _) (w3.heap.size + 1) (by simp) ?_; intro gg capg w4 O4 G4 A4 hlt4; have K4 := hid (show KB kb (N + 1) vp vs w4 from ((K3.out.of (w' := w3.alloc _) (Below.heap_alloc _ (.cells #[.slice (some ⟨gv, 0, none⟩) n cap, .slice (some ⟨g1, 0, none⟩) (n + 1) cap1, .slice (some ⟨g2, 0, none⟩) (n + 2) cap2, .slice (some ⟨g3, 0, none⟩) (n + 3) cap3, .int .i64 mk] 64) _ K3.out.1) (by simp)).of (w' := (w3.alloc _).drew) rfl (Nat.le_refl _)).gb G4 HO.out.a1); have k41 := K4.out.2.2.1; have k4f := K4.out.2.2.2.2 1))
      all_goals go_wp2
      all_goals
        refine bodyPost_end (v := .tuple #[]) (by simp [results, Tryd.results52, go_sem]) rfl ?_
        have GZ := F3.out.size
        have e1 : g1 = gv ∨ w.heap.size ≤ g1 := by
          rcases A1.out with h | h
          · left; simp [Value.ownBlock] at h; exact h
          · right; simp [Value.ownBlock] at h; have := XS.out; omega
        have e2 : g2 = gv ∨ w.heap.size ≤ g2 := by
          rcases A2.out with h | h
          · left; simp [Value.ownBlock] at h; exact h
          · right; simp [Value.ownBlock] at h; have := XS.out; omega
        have e3 : g3 = gv ∨ w.heap.size ≤ g3 := by
          rcases A3.out with h | h
          · left; simp [Value.ownBlock] at h; exact h
          · right; simp [Value.ownBlock] at h; have := XS.out; omega
        have l1 := (O1.out.lt g1 rfl).2
        have l2 := (O2.out.lt g2 rfl).2
        have l3 := (O3.out.lt g3 rfl).2
        refine ⟨rfl, mine_done (r := ⟨.slice (some ⟨gv, 0, none⟩) n cap, .slice (some ⟨g1, 0, none⟩) (n + 1) cap1, .slice (some ⟨g2, 0, none⟩) (n + 2) cap2, .slice (some ⟨g3, 0, none⟩) (n + 3) cap3, mk⟩) HO.out b1 b2 b3 b4 gz F3.out ?_ ?_ O4 G4 A4 K4.out⟩
        · intro u hu
          simp only [Rec.all, List.mem_cons, List.not_mem_nil, or_false] at hu
          rcases hu with rfl | rfl | rfl | rfl
          · exact M03.out
          · exact M13.out
          · exact M23.out
          · exact M3.out
        · intro u hu k hk
          simp only [Rec.all, List.mem_cons, List.not_mem_nil, or_false] at hu
          rcases hu with rfl | rfl | rfl | rfl
          · simp only [Value.ownBlock, Option.some.injEq] at hk; subst hk; exact ⟨.inl rfl, by omega⟩
          · simp only [Value.ownBlock, Option.some.injEq] at hk; subst hk; exact ⟨e1, by omega⟩
          · simp only [Value.ownBlock, Option.some.injEq] at hk; subst hk; exact ⟨e2, by omega⟩
          · simp only [Value.ownBlock, Option.some.injEq] at hk; subst hk; exact ⟨e3, by omega⟩
end Go.Proofs.YtljfiefobnncaaaDoor
