import Derived.Test.YtljfiefobnncaaaK12

/- outlinelaw: mine, walked. -/
namespace Go.Proofs.Ytljfiefobnncaaa
open Go.RowKit
attribute [local go_sem ↓] Go.wp_at_zero Go.wp_at_succ

set_option maxRecDepth 4000 in
set_option maxHeartbeats 2000000 in
theorem mine_any (kb N : Nat) (vp vs : Value) (P S : List Rec) (gv n cap : Nat) (l0 : List (Int × Int)) (w : World) (hO : OBook kb N vp vs P S w) (hv : w.ownsRow 0 47 2 (.slice (some ⟨gv, 0, none⟩) n cap) n (Qm.ptsV l0)) (hl : l0.length = n)
    (hN : N ≤ 2000000000) (hn : n ≤ 1000000000) (b1 : gv ≠ kb) (b2 : vp.ownBlock ≠ some gv) (b3 : vs.ownBlock ≠ some gv) (b4 : ∀ r, r ∈ P ∨ r ∈ S → ∀ u ∈ r.all, u.ownBlock ≠ some gv) :
    Calls Try.prog 57 #[.pointer (some ⟨kb, 0, none⟩), .slice (some ⟨gv, 0, none⟩) n cap] w fun e w' => e = .returned (.tuple #[]) ∧ ∃ vp' r, OBook kb (N + 1) vp' vs (P ++ [r]) S w' ∧ Fr (fun k => k = kb ∨ vp.ownBlock = some k ∨ k = gv) w w' ∧
      (vp'.ownBlock = vp.ownBlock ∨ ∃ q, vp'.ownBlock = some q ∧ w.heap.size ≤ q) ∧ ∀ u ∈ r.all, ∀ k, u.ownBlock = some k → k = gv ∨ w.heap.size ≤ k := by
  obtain ⟨i0, hi, hz0, hz1, hz2⟩ := info_parts infoPoint
  obtain ⟨ip, hip, hzp0, hzp1, hzp2⟩ := info_parts infoPts
  have HO := hid hO
  have HV := hid hv
  have HL := hid hl
  have c0 := hO.c0
  have c1 := hO.c1
  have f0 := hO.fz 0
  have f1 := hO.fz 1
  have kz := hO.lt
  have gz : gv < w.heap.size := (hv.lt gv rfl).2
  obtain ⟨mk, hmk⟩ : ∃ mk : Int, (1000 : Int) + ((N : Int) + 1) = mk := ⟨_, rfl⟩
  have mk1 : 0 ≤ mk ∧ mk ≤ 4000000000 := by omega
  clear hO hv hl
  go_enter Try.func57, Try.ntmps57
  go_wp2
  have K0 : KB kb (N + 1) vp vs (w.setCell ⟨kb, 0, none⟩ (.int .i64 ((N : Int) + 1))) := KB.set0 (N := N) ⟨kz, HO.out.c0, HO.out.c1, HO.out.c2, HO.out.fz⟩ (N + 1)
  have HK0 := hid K0
  have hO0 := hid (show (w.setCell ⟨kb, 0, none⟩ (.int .i64 ((N : Int) + 1))).ownsRow 0 47 2 (.slice (some ⟨gv, 0, none⟩) n cap) n (Qm.ptsV (fillTo l0 (mk, 0) 0)) by
    have := own_fr (C := fun k => k = kb) HV.out (w' := w.setCell ⟨kb, 0, none⟩ (.int .i64 ((N : Int) + 1))) (Fr.set rfl) (fun k hk => by simp [Value.ownBlock] at hk; omega)
    simpa [fillTo] using this)
  clear K0
  go_loopw [4] (fun iv wr => ∃ i : Nat, i ≤ n ∧ iv = .int .i64 i ∧ Hid (wr.ownsRow 0 47 2 (.slice (some ⟨gv, 0, none⟩) n cap) n (Qm.ptsV (fillTo l0 (mk, 0) i))) ∧ Hid (Fr (fun k => k = kb ∨ k = gv) w wr) ∧ Hid (KB kb (N + 1) vp vs wr)) (fun i _ => n - (intOf i).toNat)
  case atStart => exact ⟨0, by omega, rfl, hO0, Fr.set (.inl rfl), HK0⟩
  case round =>
    clear hO0 HK0 c0 c1 f0 f1
    obtain ⟨i, hin, rfl, ho, hf, hK⟩ := hrel
    obtain ⟨kz', c0, c1, c2, fz⟩ := hK.out
    have f1 := fz 1
    have c0' : wr.cell? ⟨kb, 0, none⟩ = some (.int .i64 ((N : Int) + 1)) := c0
    clear c0
    by_cases hlt : i < n
    · have lf := fillTo_len l0 (mk, 0) i (by rw [HL.out]; omega)
      have pa := ptsV_at (fillTo l0 (mk, 0) i) i (by rw [lf, HL.out]; exact hlt)
      have q0 := ho.out.cells (g := gv) rfl _ _ pa.1
      have q1 := ho.out.cells (g := gv) rfl _ _ pa.2
      rw [add_zero_at] at q0 q1
      have r0 := own_frozen ho.out (i * 2)
      have r1 := own_frozen ho.out (i * 2 + 1)
      have o2 := own_set (own_set ho.out (i * 2) (.int .i64 mk)) (i * 2 + 1) (.int .i64 0)
      rw [ptsV_set _ (mk, 0) i (by rw [lf, HL.out]; exact hlt), fillTo_succ _ _ _ (by rw [HL.out]; exact hlt)] at o2
      have O2 := hid o2
      have i0' : (0 : Int) ≤ (i : Nat) := by omega
      have i1' : ((i : Nat) : Int) < (n : Nat) := by omega
      have nb : gv ≠ kb := b1
      clear pa lf o2 fz
      go_wp2
      go_roundw
      case rel => exact ⟨i + 1, by omega, by go_num, O2, hf.out.trans ((Fr.set (.inr rfl)).trans (Fr.set (.inr rfl))), (hK.out.set _ b1).set _ b1⟩
      case measure => simp [intOf]; omega
    · have hk' : ((n : Nat) : Int) ≤ (i : Nat) := by omega
      have ei : i = n := by omega
      have ho2 := ho.out
      rw [ei, show fillTo l0 (mk, 0) n = List.replicate n (mk, 0) by unfold fillTo; rw [List.drop_eq_nil_of_le (by rw [HL.out]; exact Nat.le_refl _), List.append_nil]] at ho2
      have HO2 := hid ho2
      have zf := hf.out.size
      clear ho2 ho fz
      obtain ⟨X, hX⟩ : ∃ X, X = wr.alloc (.cells #[.int .i64 mk, .int .i64 0] 47) := ⟨_, rfl⟩
      have xs : X.heap.size = wr.heap.size + 1 := by rw [hX]; simp
      have x0 : X.cell? ⟨wr.heap.size, 0, none⟩ = some (.int .i64 mk) := by rw [hX]; simp
      have x1 : X.cell? ⟨wr.heap.size, 1, none⟩ = some (.int .i64 0) := by rw [hX]; simp
      have OX := hid (show X.ownsRow 0 47 2 (.slice (some ⟨gv, 0, none⟩) n cap) n (Qm.ptsV (List.replicate n (mk, 0))) by rw [hX]; exact HO2.out.alloc _)
      have KX := hid (show KB kb (N + 1) vp vs X by rw [hX]; exact hK.out.of (Below.heap_alloc _ _ _ kz') (by simp))
      have FX := hid (show Fr (fun k => k = kb ∨ k = gv) w X by rw [hX]; exact hf.out.trans (Fr.below ((Below.refl _ _).alloc (Nat.le_refl _) _)))
      have XS := hid xs
      have HX := hid hX
      clear xs hX
      go_wp2_with (first
        | (at_builtin; rw [← HX.out]; refine wpList_append_keeps rfl _ _ 41 rfl 0 47 i0 (.agg #[.int .i64 0, .int .i64 0]) 2 16 Try.underlying41 hi hz0 hz1 hz2 rfl (by decide) _ _ _ rfl (OX.out.alloc _) ⟨_, 0, none⟩ 1 1 [.int .i64 mk, .int .i64 0] rfl rfl (new_at _ _ _ _ (by first | rfl | exact XS.out.symm)) (marks_one mk 1) (by unfold maxLen; omega) (by omega) (Nat.zero_le _) ?_))
      intro v1 w1 O1 G1 A1 V1 H1
      have z1 : X.heap.size < w1.heap.size := by have := G1.out.size; simp at this; omega
      have K1 := hid ((KB.of KX.out (w' := X.alloc _) (Below.heap_alloc _ (.cells #[.int .i64 mk, .int .i64 0] 47) _ KX.out.1) (by simp)).gb G1.out (by simp [Value.ownBlock]; omega))
      have F1 := hid (show Fr (fun k => k = kb ∨ k = gv) w w1 from FX.out.trans ((Fr.below ((Below.refl _ _).alloc (Nat.le_refl _) (.cells #[.int .i64 mk, .int .i64 0] 47))).trans (Fr.grown G1.out (fun q hq _ => .inr (by simp [Value.ownBlock] at hq; omega)))))
      have y01 : w1.cell? ⟨wr.heap.size, 0, none⟩ = some (.int .i64 mk) := (World.cell?_of_block (a := ⟨wr.heap.size, 0, none⟩) (G1.out.block wr.heap.size (by simp; have := XS.out; omega) (by simp [Value.ownBlock]; omega))).trans ((World.cell?_of_block (a := ⟨wr.heap.size, 0, none⟩) (Below.heap_alloc X _ _ (by have := XS.out; show wr.heap.size < _; omega))).trans x0)
      have y11 : w1.cell? ⟨wr.heap.size, 1, none⟩ = some (.int .i64 0) := (World.cell?_of_block (a := ⟨wr.heap.size, 1, none⟩) (G1.out.block wr.heap.size (by simp; have := XS.out; omega) (by simp [Value.ownBlock]; omega))).trans ((World.cell?_of_block (a := ⟨wr.heap.size, 1, none⟩) (Below.heap_alloc X _ _ (by have := XS.out; show wr.heap.size < _; omega))).trans x1)
      obtain ⟨g1, cap1, hv1, _⟩ := own_src O1.out (by omega)
      subst hv1
      have M1 := hid (own_mk (n := n + 1) (mark := mk) (by rw [marks_app]; exact O1.out))
      clear HX
      go_wp2_with (first
        | (at_builtin; refine wpList_append_keeps rfl _ _ 41 rfl 0 47 i0 (.agg #[.int .i64 0, .int .i64 0]) 2 16 Try.underlying41 hi hz0 hz1 hz2 rfl (by decide) _ _ _ rfl (V1.out.alloc _) ⟨_, 0, none⟩ 2 2 [.int .i64 mk, .int .i64 0, .int .i64 mk, .int .i64 0] rfl rfl (new_at _ _ _ _ (by first | rfl | exact XS.out.symm)) (marks_one mk 2) (by unfold maxLen; omega) (by omega) (Nat.zero_le _) ?_))
      intro v2 w2 O2 G2 A2 V2 H2
      have z2 : w1.heap.size < w2.heap.size := by have := G2.out.size; simp at this; omega
      have K2 := hid ((KB.of K1.out (w' := w1.alloc _) (Below.heap_alloc _ (.cells #[.int .i64 mk, .int .i64 0, .int .i64 mk, .int .i64 0] 47) _ K1.out.1) (by simp)).gb G2.out (by simp [Value.ownBlock]; omega))
      have F2 := hid (show Fr (fun k => k = kb ∨ k = gv) w w2 from F1.out.trans ((Fr.below ((Below.refl _ _).alloc (Nat.le_refl _) (.cells #[.int .i64 mk, .int .i64 0, .int .i64 mk, .int .i64 0] 47))).trans (Fr.grown G2.out (fun q hq _ => .inr (by simp [Value.ownBlock] at hq; omega)))))
      have y02 : w2.cell? ⟨wr.heap.size, 0, none⟩ = some (.int .i64 mk) := (World.cell?_of_block (a := ⟨wr.heap.size, 0, none⟩) (G2.out.block wr.heap.size (by simp; have := XS.out; omega) (by simp [Value.ownBlock]; omega))).trans ((World.cell?_of_block (a := ⟨wr.heap.size, 0, none⟩) (Below.heap_alloc w1 _ _ (by have := XS.out; show wr.heap.size < _; omega))).trans y01)
      have y12 : w2.cell? ⟨wr.heap.size, 1, none⟩ = some (.int .i64 0) := (World.cell?_of_block (a := ⟨wr.heap.size, 1, none⟩) (G2.out.block wr.heap.size (by simp; have := XS.out; omega) (by simp [Value.ownBlock]; omega))).trans ((World.cell?_of_block (a := ⟨wr.heap.size, 1, none⟩) (Below.heap_alloc w1 _ _ (by have := XS.out; show wr.heap.size < _; omega))).trans y11)
      obtain ⟨g2, cap2, hv2, _⟩ := own_src O2.out (by omega)
      subst hv2
      have M2 := hid (own_mk (n := n + 2) (mark := mk) (by rw [marks_app]; exact O2.out))
      go_wp2_with (first
        | (at_builtin; refine wpList_append_keeps rfl _ _ 41 rfl 0 47 i0 (.agg #[.int .i64 0, .int .i64 0]) 2 16 Try.underlying41 hi hz0 hz1 hz2 rfl (by decide) _ _ _ rfl (V2.out.alloc _) ⟨_, 0, none⟩ 3 3 [.int .i64 mk, .int .i64 0, .int .i64 mk, .int .i64 0, .int .i64 mk, .int .i64 0] rfl rfl (new_at _ _ _ _ (by first | rfl | exact XS.out.symm)) (marks_one mk 3) (by unfold maxLen; omega) (by omega) (Nat.zero_le _) ?_))
      intro v3 w3 O3 G3 A3 V3 H3
      have z3 : w2.heap.size < w3.heap.size := by have := G3.out.size; simp at this; omega
      have K3 := hid ((KB.of K2.out (w' := w2.alloc _) (Below.heap_alloc _ (.cells #[.int .i64 mk, .int .i64 0, .int .i64 mk, .int .i64 0, .int .i64 mk, .int .i64 0] 47) _ K2.out.1) (by simp)).gb G3.out (by simp [Value.ownBlock]; omega))
      have F3 := hid (show Fr (fun k => k = kb ∨ k = gv) w w3 from F2.out.trans ((Fr.below ((Below.refl _ _).alloc (Nat.le_refl _) (.cells #[.int .i64 mk, .int .i64 0, .int .i64 mk, .int .i64 0, .int .i64 mk, .int .i64 0] 47))).trans (Fr.grown G3.out (fun q hq _ => .inr (by simp [Value.ownBlock] at hq; omega)))))
      have y03 : w3.cell? ⟨wr.heap.size, 0, none⟩ = some (.int .i64 mk) := (World.cell?_of_block (a := ⟨wr.heap.size, 0, none⟩) (G3.out.block wr.heap.size (by simp; have := XS.out; omega) (by simp [Value.ownBlock]; omega))).trans ((World.cell?_of_block (a := ⟨wr.heap.size, 0, none⟩) (Below.heap_alloc w2 _ _ (by have := XS.out; show wr.heap.size < _; omega))).trans y02)
      have y13 : w3.cell? ⟨wr.heap.size, 1, none⟩ = some (.int .i64 0) := (World.cell?_of_block (a := ⟨wr.heap.size, 1, none⟩) (G3.out.block wr.heap.size (by simp; have := XS.out; omega) (by simp [Value.ownBlock]; omega))).trans ((World.cell?_of_block (a := ⟨wr.heap.size, 1, none⟩) (Below.heap_alloc w2 _ _ (by have := XS.out; show wr.heap.size < _; omega))).trans y12)
      obtain ⟨g3, cap3, hv3, _⟩ := own_src O3.out (by omega)
      subst hv3
      have M3 := hid (own_mk (n := n + 3) (mark := mk) (by rw [marks_app]; exact O3.out))
      have M23 := hid (Mk.app (n := n) (m := 3) (M2.out.call ((Below.refl _ _).alloc (Nat.le_refl _) _)) G3.out H3.out)
      have M12 := hid (Mk.app (n := n) (m := 2) (M1.out.call ((Below.refl _ _).alloc (Nat.le_refl _) _)) G2.out H2.out)
      have M13 := hid (Mk.app (n := n) (m := 3) (M12.out.call ((Below.refl _ _).alloc (Nat.le_refl _) _)) G3.out H3.out)
      have M03 := hid (own_mk V3.out)
      have hOP := own_fr HO.out.po F3.out (fun k hk => by
        intro hc
        rcases hc with hc | hc
        · subst hc; exact HO.out.a1 hk
        · subst hc; exact b2 hk)
      have OP := hid hOP
      obtain ⟨kz3, e0, e1, e2, ef⟩ := K3.out
      have e0' : w3.cell? ⟨kb, 0, none⟩ = some (.int .i64 ((N : Int) + 1)) := e0
      have ef1 := ef 1
      have few := HO.out.few
      have n1 : P.length + 1 ≤ maxLen := by unfold maxLen; omega
      have n2 : (P.length + 1) * 104 ≤ 140737488355328 := by omega
      clear hOP e0 ef c0' c1 c2 f1 x0 x1 y01 y11 y02 y12 y03 y13
      obtain ⟨aop, capp, hvp, _⟩ := own_cap OP.out
      have HVP := hid hvp
      have wm : IntKind.i64.wrap mk = mk := by rw [IntKind.wrap_i64]; omega
      clear hvp
      go_wp2_with fail
      go_region_law
        ((refine step_append_lies _ (by rfl) _ _ _ (by rfl) 0 71 ip (.agg #[.slice none 0 0, .slice none 0 0, .slice none 0 0, .slice none 0 0, .int .i64 0]) 5 104 Try.underlying27 hip hzp0 hzp1 hzp2 rfl (by omega) vp P.length (recsV P) (by rfl) ((OP.out.alloc _).drew) ⟨w3.heap.size, 0, none⟩ 1 1 [.slice (some ⟨gv, 0, none⟩) n cap, .slice (some ⟨g1, 0, none⟩) (n + 1) cap1, .slice (some ⟨g2, 0, none⟩) (n + 2) cap2, .slice (some ⟨g3, 0, none⟩) (n + 3) cap3, .int .i64 mk] (by rfl) (by rfl) (World.news_of_block (cs := #[.slice (some ⟨gv, 0, none⟩) n cap, .slice (some ⟨g1, 0, none⟩) (n + 1) cap1, .slice (some ⟨g2, 0, none⟩) (n + 2) cap2, .slice (some ⟨g3, 0, none⟩) (n + 3) cap3, .int .i64 mk]) (t := 71) (fr := (0, 0)) (heap_alloc_new w3 _)) (by simp [Value.oneCell']) (by omega) n1 n2 (Nat.zero_le _) (w3.heap.size + 1) (by simp) ?_; intro gg capg w4 O4 G4 A4 hlt4; have K4 := hid (show KB kb (N + 1) vp vs w4 from ((K3.out.of (w' := w3.alloc _) (Below.heap_alloc _ (.cells #[.slice (some ⟨gv, 0, none⟩) n cap, .slice (some ⟨g1, 0, none⟩) (n + 1) cap1, .slice (some ⟨g2, 0, none⟩) (n + 2) cap2, .slice (some ⟨g3, 0, none⟩) (n + 3) cap3, .int .i64 mk] 71) _ K3.out.1) (by simp)).of (w' := (w3.alloc _).drew) rfl (Nat.le_refl _)).gb G4 HO.out.a1); have k41 := K4.out.2.2.1; have k4f := K4.out.2.2.2.2 1))
      all_goals go_wp2
      all_goals
        refine bodyPost_end (v := .tuple #[]) (by simp [results, Try.results57, go_sem]) rfl ?_
        have GZ := F3.out.size
        have e1 : g1 = gv ∨ w.heap.size ≤ g1 := by
          rcases A1.out with h | h
          · left; simp [Value.ownBlock] at h; exact h
          · right; simp [Value.ownBlock] at h; have := XS.out; omega
        have e2 : g2 = gv ∨ w.heap.size ≤ g2 := by
          rcases A2.out with h | h
          · left; simp [Value.ownBlock] at h; exact h
          · right; simp [Value.ownBlock] at h; have := XS.out; omega
        have e3 : g3 = gv ∨ w.heap.size ≤ g3 := by
          rcases A3.out with h | h
          · left; simp [Value.ownBlock] at h; exact h
          · right; simp [Value.ownBlock] at h; have := XS.out; omega
        have l1 := (O1.out.lt g1 rfl).2
        have l2 := (O2.out.lt g2 rfl).2
        have l3 := (O3.out.lt g3 rfl).2
        refine ⟨rfl, mine_done (r := ⟨.slice (some ⟨gv, 0, none⟩) n cap, .slice (some ⟨g1, 0, none⟩) (n + 1) cap1, .slice (some ⟨g2, 0, none⟩) (n + 2) cap2, .slice (some ⟨g3, 0, none⟩) (n + 3) cap3, mk⟩) HO.out b1 b2 b3 b4 gz F3.out ?_ ?_ O4 G4 A4 K4.out⟩
        · intro u hu
          simp only [Rec.all, List.mem_cons, List.not_mem_nil, or_false] at hu
          rcases hu with rfl | rfl | rfl | rfl
          · exact M03.out
          · exact M13.out
          · exact M23.out
          · exact M3.out
        · intro u hu k hk
          simp only [Rec.all, List.mem_cons, List.not_mem_nil, or_false] at hu
          rcases hu with rfl | rfl | rfl | rfl
          · simp only [Value.ownBlock, Option.some.injEq] at hk; subst hk; exact ⟨.inl rfl, by omega⟩
          · simp only [Value.ownBlock, Option.some.injEq] at hk; subst hk; exact ⟨e1, by omega⟩
          · simp only [Value.ownBlock, Option.some.injEq] at hk; subst hk; exact ⟨e2, by omega⟩
          · simp only [Value.ownBlock, Option.some.injEq] at hk; subst hk; exact ⟨e3, by omega⟩
end Go.Proofs.Ytljfiefobnncaaa

/- outlinelaw: keep: what holds in its first loop; rows of shapes that are written full. -/
namespace Go.Proofs.Ytljfiefobnncaaa
open Go.RowKit

/-- A list lies apart from the book and all that it holds. -/
def Ap (kb : Nat) (vp vs : Value) (P S : List Rec) (v : Value) : Prop := ∀ k, v.ownBlock = some k → k ≠ kb ∧ vp.ownBlock ≠ some k ∧ vs.ownBlock ≠ some k ∧ ∀ r, r ∈ P ∨ r ∈ S → ∀ u ∈ r.all, u.ownBlock ≠ some k

/-- What holds when the first i lists of points have been kept. -/
structure KI (kb N : Nat) (vp vs : Value) (P S : List Rec) (L : List (Value × (Qm.Sd × Nat))) (w : World) (i : Nat) (vp' : Value) (P' : List Rec) (wr : World) : Prop where
  ob : OBook kb (N + i) vp' vs P' S wr
  fr : Fr (fun k => k = kb ∨ vp.ownBlock = some k ∨ ∃ p ∈ L.take i, p.1.ownBlock = some k) w wr
  vpb : vp'.ownBlock = vp.ownBlock ∨ ∃ q, vp'.ownBlock = some q ∧ w.heap.size ≤ q
  recs : ∀ r ∈ P', r ∈ P ∨ ∀ u ∈ r.all, ∀ k, u.ownBlock = some k → (∃ p ∈ L.take i, p.1.ownBlock = some k) ∨ w.heap.size ≤ k

section
variable {kb N : Nat} {vp vs : Value} {P S : List Rec} {f : Qm.Sd → Qm.Sd} {b : Nat} {vl : Value} {L : List (Value × (Qm.Sd × Nat))} {w : World} {i : Nat} {vp' : Value} {P' : List Rec} {wr : World}

theorem KI.start (h : OBook kb N vp vs P S w) : KI kb N vp vs P S L w 0 vp P w := ⟨h, Fr.refl _ _, .inl rfl, fun _ hr => .inl hr⟩

theorem take_apart (hR : Rowed f b vl L w) (hi : i < L.length) : ∀ p ∈ L.take i, ∀ k, p.1.ownBlock = some k → L[i].1.ownBlock ≠ some k := by
  intro p hp k hk e
  have ap := (List.pairwise_cons.1 hR.apart).2
  obtain ⟨j, hj, hj2, e2⟩ := mem_take_getD (d := p) hp
  have := List.pairwise_iff_getElem.1 ap j i (by simpa using hj2) (by simpa using hi) hj
  simp only [List.getElem_map] at this
  have e3 : L[j] = p := by rw [← e2, List.getD_eq_getElem?_getD, List.getElem?_eq_getElem hj2]; rfl
  rw [e3, hk, e] at this
  simp at this

theorem KI.ready (h : KI kb N vp vs P S L w i vp' P' wr) (hR : Rowed f b vl L w) (hn : ∀ p ∈ L, 0 < p.2.2) (hA : ∀ p ∈ L, Ap kb vp vs P S p.1) (hi : i < L.length) :
    ∃ gv cap, L[i].1 = .slice (some ⟨gv, 0, none⟩) L[i].2.2 cap ∧ wr.ownsRow 0 47 2 (.slice (some ⟨gv, 0, none⟩) L[i].2.2 cap) L[i].2.2 (Qm.ptsV (Qm.ptsOf f L[i].2)) ∧ gv ≠ kb ∧ vp'.ownBlock ≠ some gv ∧ vs.ownBlock ≠ some gv ∧ ∀ r, r ∈ P' ∨ r ∈ S → ∀ u ∈ r.all, u.ownBlock ≠ some gv := by
  have hm := List.getElem_mem hi
  obtain ⟨gv, cap, e, _, hp, _⟩ := own_at (hR.pts _ hm) (hn _ hm)
  have ob : L[i].1.ownBlock = some gv := by rw [e]; rfl
  have ap := hA _ hm gv ob
  have ta := fun p hp k hk => take_apart (i := i) hR hi p hp k hk
  have gz : gv < w.heap.size := hp.1
  have o := hR.pts _ hm
  have o2 := own_fr o h.fr (fun k hk hc => by
    rw [ob] at hk; injection hk with hk; subst hk
    rcases hc with hc | hc | ⟨p, hp, hc⟩
    · exact ap.1 hc
    · exact ap.2.1 hc
    · exact ta p hp _ hc ob)
  rw [e] at o2
  refine ⟨gv, cap, e, o2.mono (Nat.zero_le _), ap.1, ?_, ap.2.2.1, ?_⟩
  · intro hc
    rcases h.vpb with hv | ⟨q, hv, hq⟩
    · exact ap.2.1 (hv ▸ hc)
    · rw [hv] at hc; injection hc with hc; omega
  · rintro r (hr | hr) u hu hc
    · rcases h.recs r hr with h1 | h1
      · exact ap.2.2.2 r (.inl h1) u hu hc
      · rcases h1 u hu gv hc with ⟨p, hp, h2⟩ | h2
        · exact ta p hp _ h2 ob
        · omega
    · exact ap.2.2.2 r (.inr hr) u hu hc

theorem KI.step (h : KI kb N vp vs P S L w i vp' P' wr) (hi : i < L.length) {gv : Nat} (hg : L[i].1.ownBlock = some gv) {w2 : World} {vp2 : Value} {r : Rec} (ho : OBook kb (N + i + 1) vp2 vs (P' ++ [r]) S w2) (hf : Fr (fun k => k = kb ∨ vp'.ownBlock = some k ∨ k = gv) wr w2)
    (hv : vp2.ownBlock = vp'.ownBlock ∨ ∃ q, vp2.ownBlock = some q ∧ wr.heap.size ≤ q) (hr : ∀ u ∈ r.all, ∀ k, u.ownBlock = some k → k = gv ∨ wr.heap.size ≤ k) : KI kb N vp vs P S L w (i + 1) vp2 (P' ++ [r]) w2 := by
  have z := h.fr.size
  have sub : ∀ k, (∃ p ∈ L.take i, p.1.ownBlock = some k) → ∃ p ∈ L.take (i + 1), p.1.ownBlock = some k := fun k ⟨p, hp, e⟩ => ⟨p, by rw [List.take_succ_eq_append_getElem hi]; exact List.mem_append_left _ hp, e⟩
  have here : ∃ p ∈ L.take (i + 1), p.1.ownBlock = some gv := ⟨L[i], by rw [List.take_succ_eq_append_getElem hi]; exact List.mem_append_right _ (List.mem_singleton.2 rfl), hg⟩
  refine ⟨ho, ⟨hf.os.trans h.fr.os, hf.tape.trans h.fr.tape, hf.output.trans h.fr.output, Nat.le_trans z hf.size, fun k hk hc => ?_⟩, ?_, ?_⟩
  · refine (hf.block k (by omega) fun hc2 => hc ?_).trans (h.fr.block k hk fun hc2 => hc ?_)
    · rcases hc2 with e | e | e
      · exact .inl e
      · rcases h.vpb with e2 | ⟨q, e2, hq⟩
        · exact .inr (.inl (e2 ▸ e))
        · rw [e2] at e; injection e with e; omega
      · subst e; exact .inr (.inr here)
    · exact hc2.imp id (fun h => h.imp id (sub k))
  · rcases hv with e | ⟨q, e, hq⟩
    · rw [e]; exact h.vpb
    · exact .inr ⟨q, e, by omega⟩
  · intro q hq
    rcases List.mem_append.1 hq with hq | hq
    · exact (h.recs q hq).imp id (fun h u hu k hk => (h u hu k hk).imp (sub k) id)
    · rw [List.mem_singleton] at hq; subst hq
      right
      intro u hu k hk
      rcases hr u hu k hk with e | e
      · subst e; exact .inl here
      · exact .inr (by omega)
end

/-! Rows of shapes, written full. -/
def pairV (l : List (Value × Int)) : List Value := l.flatMap fun p => [p.1, .int .i64 p.2]
theorem pairV_cons (q : Value × Int) (l : List (Value × Int)) : pairV (q :: l) = q.1 :: .int .i64 q.2 :: pairV l := by simp [pairV]
theorem pairV_app (a b : List (Value × Int)) : pairV (a ++ b) = pairV a ++ pairV b := by simp [pairV]
theorem pairV_len (l : List (Value × Int)) : (pairV l).length = l.length * 2 := by
  induction l with
  | nil => rfl
  | cons p l ih => rw [pairV_cons]; simp only [List.length_cons, ih]; omega
theorem pairV_at (d : Value × Int) (l : List (Value × Int)) : ∀ j, j < l.length → (pairV l)[j * 2]? = some (l.getD j d).1 ∧ (pairV l)[j * 2 + 1]? = some (.int .i64 (l.getD j d).2) := by
  induction l with
  | nil => intro j hj; simp at hj
  | cons p l ih =>
    intro j hj
    cases j with
    | zero => simp [pairV]
    | succ j =>
      have := ih j (by simpa using hj)
      rw [pairV_cons, show (j + 1) * 2 = j * 2 + 1 + 1 from by omega, show j * 2 + 1 + 1 + 1 = (j * 2 + 1) + 1 + 1 from by omega]
      simpa using this
theorem pairV_set (l : List (Value × Int)) (p : Value × Int) : ∀ i, i < l.length → ((pairV l).set (i * 2) p.1).set (i * 2 + 1) (.int .i64 p.2) = pairV (l.set i p) := by
  induction l with
  | nil => intro i hi; simp at hi
  | cons q l ih =>
    intro i hi
    cases i with
    | zero => show _ = pairV (p :: l); rw [pairV_cons, pairV_cons]; rfl
    | succ i =>
      rw [pairV_cons, List.set_cons_succ, pairV_cons, ← ih i (by simpa using hi), show (i + 1) * 2 = i * 2 + 1 + 1 from by omega]
      rfl
theorem shpV_pair (f : Qm.Sd → Qm.Sd) (L : List (Value × (Qm.Sd × Nat))) : shpV f L = pairV (L.map fun p => (p.1, Qm.twiceOf (Qm.ptsOf f p.2))) := by simp [shpV, pairV, List.flatMap_map]
def fillP (l : List (Value × Int)) (p : Value × Int) (i : Nat) : List (Value × Int) := List.replicate i p ++ l.drop i
theorem fillP_succ (l : List (Value × Int)) (p : Value × Int) (i : Nat) (hi : i < l.length) : (fillP l p i).set i p = fillP l p (i + 1) := by
  unfold fillP
  apply List.ext_getElem?
  intro j
  rw [List.getElem?_set]
  simp only [List.length_append, List.length_replicate, List.length_drop]
  by_cases e : i = j
  · subst e
    rw [if_pos rfl, if_pos (by omega), List.getElem?_append_left (by simp), List.getElem?_replicate, if_pos (by omega)]
  · rw [if_neg e]
    by_cases h1 : j < i
    · rw [List.getElem?_append_left (by simpa using h1), List.getElem?_append_left (by simp; omega)]
      simp [List.getElem?_replicate, h1]; omega
    · rw [List.getElem?_append_right (by simp; omega), List.getElem?_append_right (by simp; omega)]
      simp only [List.length_replicate, List.getElem?_drop]
      congr 1; omega
theorem fillP_len (l : List (Value × Int)) (p : Value × Int) (i : Nat) (hi : i ≤ l.length) : (fillP l p i).length = l.length := by simp [fillP]; omega
abbrev nilS : Value := .slice none 0 0
theorem own_mkS {w : World} {b : Nat} {t : TypeId} {v : Value} {n : Nat} {mark : Int} (h : w.ownsRow b t 2 v n (pairV (List.replicate n (nilS, mark)))) : Mk 1 v mark w := by
  have hm := own_max h
  rcases h.2 with ⟨rfl, rfl⟩ | ⟨g, cap, cur, rfl, hb, hg, _⟩
  · exact ⟨none, 0, 0, rfl, by omega, .inl rfl⟩
  · refine ⟨some ⟨g, 0, none⟩, n, cap, rfl, hm, .inr ⟨g, rfl, (Array.getElem?_eq_some_iff.1 hg).1, fun k hk => ?_⟩⟩
    have p := pairV_at (nilS, mark) (List.replicate n (nilS, mark)) k (by simpa using hk)
    have := h.cells (g := g) rfl _ _ p.2
    rw [add_zero_at] at this
    rw [this]
    simp [List.getD_eq_getElem?_getD, hk]
theorem Mk.appS {w w' : World} {v u : Value} {n m : Nat} {mark : Int} (h : Mk 1 u mark w) (hg : w.grownBy w' v.ownBlock)
    (hk : ∀ g j x, v.ownBlock = some g → w.cell? ⟨g, j, none⟩ = some x → w'.cell? ⟨g, j, none⟩ = some x ∨ ∃ q, j = n * 2 + q ∧ w'.cell? ⟨g, j, none⟩ = (pairV (List.replicate m (nilS, mark)))[q]? ∧ q < (pairV (List.replicate m (nilS, mark))).length) : Mk 1 u mark w' := by
  obtain ⟨ao, k, cap, e, hn, h1⟩ := h
  refine ⟨ao, k, cap, e, hn, h1.imp id ?_⟩
  rintro ⟨g, e2, h2, h3⟩
  refine ⟨g, e2, Nat.lt_of_lt_of_le h2 hg.size, fun j hj => ?_⟩
  by_cases ev : v.ownBlock = some g
  · rcases hk g (j * 2 + 1) _ ev (h3 j hj) with h4 | ⟨q, h4, h5, h6⟩
    · exact h4
    · rw [h5]
      rw [pairV_len, List.length_replicate] at h6
      have p := pairV_at (nilS, mark) (List.replicate m (nilS, mark)) (q / 2) (by simp; omega)
      rw [show q = q / 2 * 2 + 1 from by omega, p.2]
      simp [List.getD_eq_getElem?_getD, show q / 2 < m from by omega]
  · exact (World.cell?_of_block (a := ⟨g, j * 2 + 1, none⟩) (hg.block g h2 (fun e => ev e.symm))).trans (h3 j hj)
theorem markS_app (mk : Int) (n k : Nat) : pairV (List.replicate (n + k) (nilS, mk)) = pairV (List.replicate n (nilS, mk)) ++ pairV (List.replicate k (nilS, mk)) := by rw [← pairV_app, List.replicate_append_replicate]
theorem markS_one (mk : Int) (k : Nat) : ∀ u ∈ pairV (List.replicate k (nilS, mk)), u.oneCell' = true := by
  intro u hu
  simp only [pairV, List.mem_flatMap] at hu
  obtain ⟨p, hp, hu⟩ := hu
  rw [List.eq_of_mem_replicate hp] at hu
  simp only [List.mem_cons, List.not_mem_nil, or_false] at hu
  rcases hu with rfl | rfl <;> rfl

theorem keep_done {kb N : Nat} {vp vs : Value} {P S : List Rec} {w w3 w4 : World} {v : Value} {gg capg : Nat} {r : Rec} {o : Obj} (HO : OBook kb N vp vs P S w) (ap : Ap kb vp vs P S v)
    (F3 : Fr (fun k => k = kb ∨ v.ownBlock = some k) w w3) (M : ∀ u ∈ r.all, Mk 1 u r.mark w3) (B : ∀ u ∈ r.all, ∀ k, u.ownBlock = some k → (v.ownBlock = some k ∨ w.heap.size ≤ k) ∧ k < w3.heap.size)
    (O4 : w4.ownsRow 0 74 5 (.slice (some ⟨gg, 0, none⟩) (S.length + 1) capg) (S.length + 1) (recsV S ++ recV r)) (G4 : (w3.alloc o).drew.grownBy w4 vs.ownBlock) (A4 : vs.ownBlock = some gg ∨ gg = w3.heap.size + 1) (K4 : KB kb (N + 1) vp vs w4) :
    ∃ vs' r, OBook kb (N + 1) vp vs' P (S ++ [r]) (w4.setCell ⟨kb, 2, none⟩ (.slice (some ⟨gg, 0, none⟩) (S.length + 1) capg)) ∧ Fr (fun k => k = kb ∨ vs.ownBlock = some k ∨ v.ownBlock = some k) w (w4.setCell ⟨kb, 2, none⟩ (.slice (some ⟨gg, 0, none⟩) (S.length + 1) capg)) ∧
      (vs'.ownBlock = vs.ownBlock ∨ ∃ q, vs'.ownBlock = some q ∧ w.heap.size ≤ q) := by
  have z3 := F3.size
  have z4 := G4.size
  simp at z4
  have vpl : ∀ k, vp.ownBlock = some k → k < w.heap.size := fun k hk => (HO.po.lt k hk).2
  have vsl : ∀ k, vs.ownBlock = some k → k < w.heap.size := fun k hk => (HO.so.lt k hk).2
  have kz := HO.lt
  have ggk : gg ≠ kb := by
    rcases A4 with h | h
    · intro e; subst e; exact HO.a2 h
    · omega
  have F34 : Fr (fun k => k = kb ∨ vs.ownBlock = some k) w3 (w4.setCell ⟨kb, 2, none⟩ (.slice (some ⟨gg, 0, none⟩) (S.length + 1) capg)) :=
    (Fr.below ((Below.refl _ _).alloc (Nat.le_refl _) o)).trans ((Fr.below (a := w3.alloc o) (b := (w3.alloc o).drew) ((Below.refl _ _).drew)).trans ((Fr.grown G4 (fun k hk _ => .inr hk)).trans (Fr.set (.inl rfl))))
  have FT : Fr (fun k => k = kb ∨ vs.ownBlock = some k ∨ v.ownBlock = some k) w (w4.setCell ⟨kb, 2, none⟩ (.slice (some ⟨gg, 0, none⟩) (S.length + 1) capg)) :=
    (F3.imp (fun k _ h => h.elim .inl (fun h => .inr (.inr h)))).trans (F34.imp (fun k _ h => h.elim .inl (fun h => .inr (.inl h))))
  have KF := KB.set2 K4 (.slice (some ⟨gg, 0, none⟩) (S.length + 1) capg)
  have oldC : ∀ r, r ∈ P ∨ r ∈ S → ∀ u ∈ r.all, ∀ k, u.ownBlock = some k → ¬ (k = kb ∨ vs.ownBlock = some k ∨ v.ownBlock = some k) := fun r hr u hu k hk hc => by
    have h := HO.far r hr u hu k hk
    rcases hc with hc | hc | hc
    · exact h.1 hc
    · exact h.2.2 hc
    · exact (ap k hc).2.2.2 r hr u hu hk
  refine ⟨.slice (some ⟨gg, 0, none⟩) (S.length + 1) capg, r, ⟨KF.1, KF.2.1, KF.2.2.1, KF.2.2.2.1, KF.2.2.2.2, ?_, ?_, ?_, ?_, HO.a1, ?_, ?_, ?_, ?_, ?_⟩, FT, ?_⟩
  · refine own_fr HO.po FT fun k hk hc => ?_
    rcases hc with hc | hc | hc
    · subst hc; exact HO.a1 hk
    · exact HO.a3 k hk hc
    · exact (ap k hc).2.1 hk
  · rw [recsV_snoc, List.length_append]
    exact own_fr (C := fun k => k = kb) O4 (Fr.set rfl) (fun k hk => by simp [Value.ownBlock] at hk; omega)
  · intro q hq
    exact MkR.of fun u hu => ((HO.mp q hq).get u hu).fr FT (oldC q (.inl hq) u hu)
  · intro q hq
    rcases List.mem_append.1 hq with hq | hq
    · exact MkR.of fun u hu => ((HO.ms q hq).get u hu).fr FT (oldC q (.inr hq) u hu)
    · rw [List.mem_singleton] at hq; subst hq
      refine MkR.of fun u hu => (M u hu).fr F34 fun k hk hc => ?_
      have h := (B u hu k hk).1
      rcases hc with hc | hc
      · rcases h with h | h
        · exact (ap k h).1 hc
        · omega
      · rcases h with h | h
        · exact (ap k h).2.2.1 hc
        · have := vsl k hc; omega
  · intro e; simp [Value.ownBlock] at e; omega
  · intro k hk hv
    simp only [Value.ownBlock, Option.some.injEq] at hv
    subst hv
    rcases A4 with h | h
    · exact HO.a3 _ hk h
    · have := vpl _ hk; omega
  · intro q hq u hu k hk
    have new : q = r → k ≠ kb ∧ vp.ownBlock ≠ some k ∧ (Value.slice (some ⟨gg, 0, none⟩) (S.length + 1) capg).ownBlock ≠ some k := fun e => by
      subst e
      obtain ⟨h, h2⟩ := B u hu k hk
      refine ⟨?_, fun e => ?_, fun e => ?_⟩
      · rcases h with h | h
        · exact (ap k h).1
        · omega
      · rcases h with h | h
        · exact (ap k h).2.1 e
        · have := vpl _ e; omega
      · simp only [Value.ownBlock, Option.some.injEq] at e
        subst e
        rcases A4 with h3 | h3
        · rcases h with h | h
          · exact (ap _ h).2.2.1 h3
          · have := vsl _ h3; omega
        · omega
    have old : q ∈ P ∨ q ∈ S → k ≠ kb ∧ vp.ownBlock ≠ some k ∧ (Value.slice (some ⟨gg, 0, none⟩) (S.length + 1) capg).ownBlock ≠ some k := fun hq => by
      have h := HO.far q hq u hu k hk
      have hl := HO.old q hq u hu k hk
      refine ⟨h.1, h.2.1, fun e => ?_⟩
      simp only [Value.ownBlock, Option.some.injEq] at e
      subst e
      rcases A4 with h3 | h3
      · exact h.2.2 h3
      · omega
    rcases hq with hq | hq
    · exact old (.inl hq)
    · rcases List.mem_append.1 hq with hq | hq
      · exact old (.inr hq)
      · exact new (List.mem_singleton.1 hq)
  · intro q hq u hu k hk
    have zf := FT.size
    have zg := F34.size
    rcases hq with hq | hq
    · have := HO.old q (.inl hq) u hu k hk; omega
    · rcases List.mem_append.1 hq with hq | hq
      · have := HO.old q (.inr hq) u hu k hk; omega
      · have e := List.mem_singleton.1 hq; subst e; have := (B u hu k hk).2; omega
  · have := HO.few; simp; omega
  · rcases A4 with h | h
    · left; rw [h]; rfl
    · right; exact ⟨gg, rfl, by omega⟩

theorem OBook.below {kb N : Nat} {vp vs : Value} {P S : List Rec} {w w' : World} (h : OBook kb N vp vs P S w) (hb : Below w.heap.size w w') : OBook kb N vp vs P S w' :=
  ⟨Nat.lt_of_lt_of_le h.lt hb.size, (hb.cell (p := ⟨kb, 0, none⟩) h.lt).trans h.c0, (hb.cell (p := ⟨kb, 1, none⟩) h.lt).trans h.c1, (hb.cell (p := ⟨kb, 2, none⟩) h.lt).trans h.c2, fun j => (hb.frozen (p := ⟨kb, j, none⟩) h.lt).trans (h.fz j), own_below h.po hb, own_below h.so hb, fun r hr => (h.mp r hr).call hb, fun r hr => (h.ms r hr).call hb, h.a1, h.a2, h.a3, h.far, fun r hr u hu k hk => Nat.lt_of_lt_of_le (h.old r hr u hu k hk) hb.size, h.few⟩

/-- The row of shapes lies apart from the points of its shapes, and from the book as it has become. -/
theorem KI.apl {kb N : Nat} {vp vs : Value} {P S : List Rec} {f : Qm.Sd → Qm.Sd} {b : Nat} {vl : Value} {L : List (Value × (Qm.Sd × Nat))} {w : World} {i : Nat} {vp' : Value} {P' : List Rec} {wr : World} (h : KI kb N vp vs P S L w i vp' P' wr) (hR : Rowed f b vl L w) (hA : Ap kb vp vs P S vl) :
    Ap kb vp' vs P' S vl ∧ (∀ k, vl.ownBlock = some k → ¬ (k = kb ∨ vp.ownBlock = some k ∨ ∃ p ∈ L.take i, p.1.ownBlock = some k)) := by
  have pl : ∀ p ∈ L, ∀ k, vl.ownBlock = some k → p.1.ownBlock ≠ some k := fun p hp k hk e => by
    rcases (List.pairwise_cons.1 hR.apart).1 p.1 (List.mem_map_of_mem hp) with h | h
    · rw [hk] at h; cases h
    · exact h (hk.trans e.symm)
  have lt : ∀ k, vl.ownBlock = some k → k < w.heap.size := fun k hk => (hR.row.lt k hk).2
  refine ⟨fun k hk => ⟨(hA k hk).1, ?_, (hA k hk).2.2.1, ?_⟩, fun k hk hc => ?_⟩
  · intro e
    rcases h.vpb with e2 | ⟨q, e2, hq⟩
    · exact (hA k hk).2.1 (e2 ▸ e)
    · rw [e2] at e; injection e with e; have := lt k hk; omega
  · rintro r (hr | hr) u hu e
    · rcases h.recs r hr with h1 | h1
      · exact (hA k hk).2.2.2 r (.inl h1) u hu e
      · rcases h1 u hu k e with ⟨p, hp, h2⟩ | h2
        · exact pl p (List.mem_of_mem_take hp) k hk h2
        · have := lt k hk; omega
    · exact (hA k hk).2.2.2 r (.inr hr) u hu e
  · rcases hc with hc | hc | ⟨p, hp, hc⟩
    · exact (hA k hk).1 hc
    · exact (hA k hk).2.1 hc
    · exact pl p (List.mem_of_mem_take hp) k hk hc
end Go.Proofs.Ytljfiefobnncaaa
