/- outlinekeep: places. -/
import Derived.Test.YtljfiefobnncaaaK28
namespace Go.Proofs.Ytljfiefobnncaaa
open Go.RowKit
attribute [local go_sem ↓] Go.wp_at_zero Go.wp_at_succ

theorem madeInts_at (n j : Nat) (hj : j < n) : (madeCells #[Value.int .i64 0] (n * 1)).toList[j]? = some (.int .i64 0) := by
  rw [Nat.mul_one, toList_madeCells_one, List.getElem?_replicate, if_pos hj]
theorem madeSl_at (n j : Nat) (hj : j < n) : (madeCells #[Value.slice none 0 0] (n * 1)).toList[j]? = some (.slice none 0 0) := by
  rw [Nat.mul_one, toList_madeCells_one, List.getElem?_replicate, if_pos hj]

theorem gb_new {X wr : World} {r : Option Nat} (h : X.grownBy wr r) {b k : Nat} (hb : X.heap.size ≤ b) (x : Value) : X.grownBy (wr.setCell ⟨b, k, none⟩ x) r :=
  ⟨h.os, h.tape, h.output, by rw [World.size_setCell]; exact h.size, fun q hq hn => (Below.heap_setCell _ _ _ _ (by dsimp; omega)).trans (h.block q hq hn)⟩
theorem kf_fit {v : List (Int × Int)} {q k : Nat} (h1 : q ≤ k) (h2 : k < v.length) (h3 : k - q ≤ 12) : Qm.kfB (Qm.sl v q k) = Qm.fitB (Qm.sl v q k) := by
  unfold Qm.kfB; rw [Qm.sl_len h1 h2, decide_eq_true (by omega)]; rfl

set_option maxRecDepth 4000 in
set_option maxHeartbeats 4000000 in
theorem places_any (g n cap gl M capl : Nat) (c l : List (Int × Int)) (hn : n = c.length) (h0 : 0 < n) (hs : Qm.Small c) (hn2 : n ≤ 4356) (hu : Qm.Unit (c ++ [Qm.fstP c])) (hM : M = l.length) (hM0 : 0 < M) (hM2 : M ≤ 4356) (hl : l = Qm.cornL c) (w : World) (hP : PtsAt g c w) (hQ : PtsAt gl l w) :
    Calls Try.prog 27 #[.slice (some ⟨g, 0, none⟩) n cap, .slice (some ⟨gl, 0, none⟩) M capl] w fun e w' => ∃ gr capr L, e = .returned (.tuple #[.slice (some ⟨gr, 0, none⟩) L.length capr, .bool true]) ∧ L.length = M + 1 ∧ Qm.Pth (Qm.okV (c ++ [Qm.fstP c])) 0 n L ∧ NumsAt gr L w' ∧ Below w.heap.size w w' := by
  obtain ⟨ip, hip, hp0, hp1, hp2⟩ := info_parts infoPoint
  obtain ⟨is, his, hs0, hs1, hs2⟩ := info_parts infoInts
  obtain ⟨ii, hii, hi0, hi1', hi2⟩ := info_parts infoInt
  have hg := hP.1
  have hgl := hQ.1
  have HP := hid hP
  have HQ := hid hQ
  have HN := hid hn
  have HM := hid hM
  have OPT := hid (show Qm.Opt (Qm.okV (c ++ [Qm.fstP c])) (Qm.cV (c ++ [Qm.fstP c])) 0 n (Qm.cornN c ++ [n]) by rw [hn]; exact Qm.cornN_is (by omega) hu)
  have CLT := hid (Qm.cornN_lt (by omega) hu)
  have IL := hid (show (Qm.cornN c ++ [n]).length = M + 1 by rw [hM, hl]; simp [Qm.cornL])
  obtain ⟨v, hv⟩ : ∃ v, v = c ++ [Qm.fstP c] := ⟨_, rfl⟩
  obtain ⟨al, hal⟩ : ∃ al, al = l ++ [Qm.fstP l] := ⟨_, rfl⟩
  have VL := hid (show v.length = n + 1 by rw [hv, hn]; simp)
  have ALL := hid (show al.length = M + 1 by rw [hal, hM]; simp)
  -- the corners stand where they should
  have f0 : l.getD 0 (0, 0) = c.getD 0 (0, 0) := by
    obtain ⟨m, e⟩ := OPT.out.1.head
    have h1 : (Qm.cornN c).getD 0 0 = 0 := by
      have : (Qm.cornN c ++ [n]).getD 0 0 = 0 := by rw [e]; rfl
      rwa [Qm.getD_app_l _ _ _ _ (by have := IL.out; simp at this; omega)] at this
    rw [hl]
    unfold Qm.cornL
    have h2 : 0 < (Qm.cornN c).length := by have := IL.out; simp at this; omega
    simp only [List.getD_eq_getElem?_getD, List.getElem?_map, List.getElem?_eq_getElem h2, Option.map_some, Option.getD_some]
    rw [List.getD_eq_getElem?_getD, List.getElem?_eq_getElem h2] at h1
    simp only [Option.getD_some] at h1
    rw [h1]
  have AT := hid (show ∀ a, a ≤ M → v.getD ((Qm.cornN c ++ [n]).getD a 0) (0, 0) = al.getD a (0, 0) from fun a ha => by
    have hcl : (Qm.cornN c).length = M := by have := IL.out; simp at this; omega
    rcases Nat.lt_or_ge a M with h1 | h1
    · rw [Qm.getD_app_l _ _ _ _ (by omega), hal, Qm.getD_app_l _ _ _ _ (by omega), hl]
      have hm : (Qm.cornN c).getD a 0 ∈ Qm.cornN c := by rw [List.getD_eq_getElem?_getD, List.getElem?_eq_getElem (by omega)]; exact List.getElem_mem _
      rw [hv, Qm.getD_app_l _ _ _ _ (CLT.out _ hm)]
      unfold Qm.cornL
      simp [List.getD_eq_getElem?_getD, show a < (Qm.cornN c).length by omega]
    · obtain rfl : a = M := by omega
      rw [Qm.getD_app_r _ _ _ _ (by omega), hcl, Nat.sub_self, List.getD_cons_zero, hal, Qm.getD_app_r _ _ _ _ (by omega), ← hM, Nat.sub_self, List.getD_cons_zero, hv, Qm.getD_app_r _ _ _ _ (by omega), ← hn, Nat.sub_self, List.getD_cons_zero]
      exact f0.symm)
  have SV := hid (show Qm.Small v from fun p hp => by
    rw [hv] at hp
    rcases List.mem_append.1 hp with h | h
    · exact hs p h
    · rw [List.mem_singleton.1 h]; exact hs.at 0)
  have FS := hid (show Qm.fstP c = c.getD 0 (0, 0) from rfl)
  have FL := hid (show Qm.fstP l = l.getD 0 (0, 0) from rfl)
  rw [← hv] at hu OPT ⊢
  have HU := hid hu
  have HV := hid hv
  have HAL := hid hal
  have NW := hid (show ∀ j u, (Qm.ptsV c)[j]? = some u → w.cell? ((⟨g, 0, none⟩ : Addr).add j) = some u by
    have := hP.news 0 n (by omega)
    rw [List.drop_zero, hn, List.take_length] at this
    simpa using this)
  have NL := hid (show ∀ W', Below w.heap.size w W' → ∀ j u, (Qm.ptsV l)[j]? = some u → W'.cell? ((⟨gl, 0, none⟩ : Addr).add j) = some u from fun W' hW => by
    have := (hQ.on hW hgl).news 0 M (by omega)
    rw [List.drop_zero, hM, List.take_length] at this
    simpa using this)
  have LP := hid (show (Qm.ptsV c).length = n * 2 by rw [Qm.ptsV_len, hn])
  have LQ := hid (show (Qm.ptsV l).length = M * 2 by rw [Qm.ptsV_len, hM])
  obtain ⟨q0, q1⟩ := hP.2 0 (by omega)
  obtain ⟨t0, t1⟩ := hQ.2 0 (by omega)
  rw [f0] at t0 t1 FL
  simp only [Nat.zero_mul, Nat.zero_add] at q0 q1 t0 t1
  obtain ⟨⟨fa, fb⟩, hff⟩ : ∃ p, p = c.getD 0 (0, 0) := ⟨_, rfl⟩
  rw [← hff] at q0 q1 t0 t1 FS FL
  dsimp only at q0 q1 t0 t1
  clear hP hQ hn hM hv hal hl hff f0 hu hs CLT
  have C0 := hid (show ∀ W', Below w.heap.size w W' → W'.cell? ⟨g, 0, none⟩ = some (.int .i64 fa) ∧ W'.cell? ⟨g, 1, none⟩ = some (.int .i64 fb) ∧ W'.cell? ⟨gl, 0, none⟩ = some (.int .i64 fa) ∧ W'.cell? ⟨gl, 1, none⟩ = some (.int .i64 fb) from fun W' hW => ⟨(hW.cell (p := ⟨g, 0, none⟩) hg).trans q0, (hW.cell (p := ⟨g, 1, none⟩) hg).trans q1, (hW.cell (p := ⟨gl, 0, none⟩) hgl).trans t0, (hW.cell (p := ⟨gl, 1, none⟩) hgl).trans t1⟩)
  go_enter Try.func27, Try.ntmps27
  go_wp2_with (first
    | (at_builtin; refine wpList_append_own_at _ rfl _ _ 41 rfl w.heap.size 47 ip (.agg #[.int .i64 0, .int .i64 0]) 2 16 Try.underlying41 hip hp0 hp1 hp2 rfl (by decide) _ _ _ rfl (World.ownsRow_nil _ _ _ _) ⟨g, 0, none⟩ n cap (Qm.ptsV c) rfl LP.out NW.out (pts_one _) (by unfold maxLen; omega) (by omega) (Nat.le_refl _) ?_))
  intro v1 w1 o1 g1 _ _
  have B1 := hid (show Below w.heap.size w w1 from (Below.refl _ _).grown g1 (Nat.le_refl _) (fun q hq => by simp [Value.ownBlock] at hq))
  have O1 := hid o1
  have hz1 := B1.out.size
  have n1 : n + 1 ≤ maxLen := by unfold maxLen; omega
  have n2 : (n + 1) * 16 ≤ 140737488355328 := by omega
  have n3 : w.heap.size ≤ (w1.alloc (.cells #[.int .i64 fa, .int .i64 fb] 47)).heap.size := by simp; omega
  clear o1 g1 q0 q1 t0 t1
  obtain ⟨r0, r1, -, -⟩ := C0.out _ B1.out
  go_wp2_with (first
    | (at_builtin; refine wpList_append_own_at _ rfl _ _ 41 rfl w.heap.size 47 ip (.agg #[.int .i64 0, .int .i64 0]) 2 16 Try.underlying41 hip hp0 hp1 hp2 rfl (by decide) _ _ _ rfl (O1.out.alloc _) ⟨_, 0, none⟩ 1 1 [.int .i64 fa, .int .i64 fb] rfl rfl (two_cells _ _ _ _) (two_one _ _) n1 n2 n3 ?_))
  intro v2 w2 o2 g2 _ _
  have B2 := hid (show Below w.heap.size w w2 from (B1.out.alloc hz1 _).grown g2 n3 (fun q hq => (O1.out.lt q hq).1))
  have o2' : w2.ownsRow w.heap.size 47 2 v2 (n + 1) (Qm.ptsV v) := by rw [HV.out, Qm.ptsV_snoc, FS.out]; exact o2
  obtain ⟨gv, capv, rfl, hgv0, hpv, -⟩ := own_at o2' (by omega)
  obtain ⟨_, capv', ecv, hcv'⟩ := own_cap o2'
  have hcv : n + 1 ≤ capv := by injection ecv with _ _ e; omega
  have HPV := hid hpv
  have hgv := hpv.1
  have hz2 := B2.out.size
  clear o2 g2 o2' hpv ecv r0 r1 O1 NW LP hcv'
  have m1 : 0 + M ≤ maxLen := by unfold maxLen; omega
  go_wp2_with (first
    | (at_builtin; refine wpList_append_own_at _ rfl _ _ 41 rfl w2.heap.size 47 ip (.agg #[.int .i64 0, .int .i64 0]) 2 16 Try.underlying41 hip hp0 hp1 hp2 rfl (by decide) _ _ _ rfl (World.ownsRow_nil _ _ _ _) ⟨gl, 0, none⟩ M capl (Qm.ptsV l) rfl LQ.out (NL.out _ B2.out) (pts_one _) m1 (by omega) (Nat.le_refl _) ?_))
  intro v3 w3 o3 g3 _ _
  have A3 := hid (show Below w2.heap.size w2 w3 from (Below.refl _ _).grown g3 (Nat.le_refl _) (fun q hq => by simp [Value.ownBlock] at hq))
  have O3 := hid o3
  have B3 := hid (B2.out.trans (A3.out.mono hz2))
  have hz3 := A3.out.size
  have m2 : M + 1 ≤ maxLen := by unfold maxLen; omega
  have m3 : (M + 1) * 16 ≤ 140737488355328 := by omega
  have m4 : w2.heap.size ≤ (w3.alloc (.cells #[.int .i64 fa, .int .i64 fb] 47)).heap.size := by simp; omega
  clear o3 g3
  obtain ⟨-, -, r0, r1⟩ := C0.out _ B3.out
  go_wp2_with (first
    | (at_builtin; refine wpList_append_own_at _ rfl _ _ 41 rfl w2.heap.size 47 ip (.agg #[.int .i64 0, .int .i64 0]) 2 16 Try.underlying41 hip hp0 hp1 hp2 rfl (by decide) _ _ _ rfl (O3.out.alloc _) ⟨_, 0, none⟩ 1 1 [.int .i64 fa, .int .i64 fb] rfl rfl (two_cells _ _ _ _) (two_one _ _) m2 m3 m4 ?_))
  intro v4 w4 o4 g4 _ _
  have A4 := hid (show Below w2.heap.size w2 w4 from (A3.out.alloc hz3 _).grown g4 m4 (fun q hq => (O3.out.lt q hq).1))
  have o4' : w4.ownsRow w2.heap.size 47 2 v4 (M + 1) (Qm.ptsV al) := by rw [HAL.out, Qm.ptsV_snoc, FL.out]; exact o4
  obtain ⟨ga, capa, rfl, hga0, hpa, -⟩ := own_at o4' (by omega)
  have HPA := hid hpa
  have hga := hpa.1
  have HPV4 := hid (HPV.out.on A4.out HPV.out.1)
  have B4 := hid (B2.out.trans (A4.out.mono hz2))
  have hz4 := A4.out.size
  clear o4 g4 o4' hpa r0 r1 O3 NL LQ
  obtain ⟨r0, r1, r2, r3⟩ := C0.out _ B4.out
  go_wp2_with fail
  go_quiet (fail)
  have DQ := hid (show Below w4.heap.size w4 (w4.drewN nq) from ⟨rfl, rfl, rfl, Nat.le_refl _, fun _ _ => rfl⟩)
  have zq : w4.heap.size ≤ (w4.drewN nq).heap.size := Nat.le_refl _
  obtain ⟨w5, hw5⟩ : ∃ w5, w5 = w4.drewN nq := ⟨_, rfl⟩
  rw [← hw5] at DQ zq ⊢
  clear hw5 r0 r1 r2 r3
  go_wp2_with (first
    | (at_make; refine wpList_make_full _ rfl _ _ 79 rfl w5.heap.size 33 is (.slice none 0 0) 1 Try.underlying79 his hs0 hs1 .i64 .i64 _ _ (M + 1) rfl rfl (by simp) (by simp) (by rw [hs2]; omega) m2 (Nat.le_refl _) ?_))
  intro w6 o6 g6
  have b6 : Below w5.heap.size w5 w6 := ⟨g6.os, g6.tape, g6.output, g6.size, fun k hk => g6.block k hk (by simp)⟩
  have z6 : w5.heap.size < w6.heap.size := (o6.lt w5.heap.size rfl).2
  have TB0 := hid (show FTab w5.heap.size (fun _ => 0) 0 M (n + 1) (fun _ _ => -1) w6 from ⟨z6, fun j => own_fz o6 j, fun i hi => ⟨none, 0, 0, by
    have := o6.cells (g := w5.heap.size) rfl i _ (by have := madeSl_at (M + 1) i (by omega); simpa using this)
    rwa [add_zero_at] at this⟩, fun i hi => by omega, fun i j hi => by omega⟩)
  have B6 := hid (show Below w.heap.size w w6 from (B4.out.trans (DQ.out.mono B4.out.size)).trans (b6.mono (by have := B4.out.size; omega)))
  have HPV6 := hid (((HPV4.out.on DQ.out (by omega)).on b6 (by omega)))
  have HPA6 := hid (((HPA.out.on DQ.out hga).on b6 (by omega)))
  obtain ⟨gf, hgf⟩ : ∃ gf, gf = w5.heap.size := ⟨_, rfl⟩
  rw [← hgf] at TB0 z6 ⊢
  have gvf : gv < gf := by omega
  have gaf : ga < gf := by omega
  have wgf : w.heap.size ≤ gf := by have := B4.out.size; omega
  clear hgf o6 g6 b6 HPV HPA HPV4 DQ C0 B1 A3 B3 A4
  go_wp2_with fail
  go_loopw [10] (fun iv wr => ∃ (i : Nat) (G : Nat → Nat), i ≤ M + 1 ∧ iv = .int .i64 i ∧ Hid (FTab gf G i M (n + 1) (fun _ _ => -1) wr) ∧ Hid (w6.grownBy wr (some gf)) ∧ Hid (∀ a, a < i → w6.heap.size ≤ G a)) (fun i _ => M + 1 - (intOf i).toNat)
  case atStart => exact ⟨0, fun _ => 0, by omega, rfl, TB0, World.grownBy.refl _ _, fun a ha => by omega⟩
  case round =>
    clear TB0
    obtain ⟨i, G, hiM, rfl, hT, hG, hX⟩ := hrel
    obtain ⟨wo, rfl⟩ : ∃ wo, wo = wr := ⟨_, rfl⟩
    have zo := hG.out.size
    by_cases hlt : i < M + 1
    · obtain ⟨x1, x2, x3, cx⟩ := hT.out.ex i (by omega)
      have fx := hT.out.fz i
      have ltx := hT.out.lt
      have j1 : (0 : Int) ≤ (i : Nat) := by omega
      have j2 : ((i : Nat) : Int) < (M : Int) + 1 := by omega
      go_wp2_with (first
        | (at_make; refine wpList_make_full _ rfl _ _ 33 rfl wo.heap.size 3 ii (.int .i64 0) 1 Try.underlying33 hii hi0 hi1' .i64 .i64 _ _ (n + 1) rfl rfl (by simp) (by simp) (by rw [hi2]; omega) n1 (Nat.le_refl _) ?_))
      intro w7 o7 g7
      have b7 : Below wo.heap.size wo w7 := ⟨g7.os, g7.tape, g7.output, g7.size, fun k hk => g7.block k hk (by simp)⟩
      have z7 : wo.heap.size < w7.heap.size := (o7.lt wo.heap.size rfl).2
      have T7 := hid (hT.out.on b7)
      have T8 := hid (T7.out.laid (j := i) (Nat.le_refl _) (by omega) (some ⟨wo.heap.size, 0, none⟩) (n + 1) (n + 1))
      have cx7 := (b7.cell (p := ⟨gf, i, none⟩) ltx).trans cx
      have fx7 := T7.out.fz i
      have lt7 := T7.out.lt
      have NE : ∀ a, a < i → wo.heap.size ≠ G a := fun a ha => by have := (hT.out.row a ha).2.2.1; omega
      have HNE := hid NE
      have ngf : wo.heap.size ≠ gf := by omega
      have RC := hid (show ∀ q, q < n + 1 → w7.cell? ⟨wo.heap.size, q, none⟩ = some (.int .i64 0) from fun q hq => by
        have := o7.cells (g := wo.heap.size) rfl q _ (by have := madeInts_at (n + 1) q hq; simpa using this)
        rwa [add_zero_at] at this)
      have FZ := hid (show ∀ q, w7.frozen? ⟨wo.heap.size, q, none⟩ = false from fun q => own_fz o7 q)
      have G8 := hid (show w6.grownBy (w7.setCell ⟨gf, i, none⟩ (.slice (some ⟨wo.heap.size, 0, none⟩) (n + 1) (n + 1))) (some gf) from gb_trans (gb_below hG.out b7 hG.out.size) (set_grown (Below.refl _ _) ⟨gf, i, none⟩))
      have C8 := hid (show (w7.setCell ⟨gf, i, none⟩ (.slice (some ⟨wo.heap.size, 0, none⟩) (n + 1) (n + 1))).cell? ⟨gf, i, none⟩ = some (.slice (some ⟨wo.heap.size, 0, none⟩) (n + 1) (n + 1)) from World.cell?_setCell_same _ _ _ cx7)
      clear o7 g7 NE
      go_wp2_with fail
      clear cx fx cx7 fx7
      go_loopw [11] (fun kv wx => ∃ k : Nat, k ≤ n + 1 ∧ kv = .int .i64 k ∧ Hid (FTab gf G i M (n + 1) (fun _ _ => -1) wx) ∧ Hid (wx.cell? ⟨gf, i, none⟩ = some (.slice (some ⟨wo.heap.size, 0, none⟩) (n + 1) (n + 1))) ∧ Hid (∀ q, q < n + 1 → ∃ z, wx.cell? ⟨wo.heap.size, q, none⟩ = some (.int .i64 z) ∧ (q < k → z = -1)) ∧ Hid (∀ q, wx.frozen? ⟨wo.heap.size, q, none⟩ = false) ∧ Hid (w6.grownBy wx (some gf)) ∧ wo.heap.size < wx.heap.size) (fun k _ => n + 1 - (intOf k).toNat)
      case atStart => exact ⟨0, by omega, rfl, T8, C8, fun q hq => ⟨0, (World.cell?_setCell_other _ _ _ _ (by intro e; injection e with e _ _; omega)).trans (RC.out q hq), fun h => by omega⟩, fun q => by simpa using FZ.out q, G8, by rw [World.size_setCell]; exact z7⟩
      case round =>
        clear T8 C8 RC FZ G8 T7
        obtain ⟨k, hk, rfl, hT8, hC8, hR8, hF8, hG8, hz8⟩ := hrel
        by_cases hkn : k < n + 1
        · obtain ⟨z, cz, _⟩ := hR8.out k hkn
          have fz8 := hF8.out k
          have c8 := hC8.out
          have k1 : (0 : Int) ≤ (k : Nat) := by omega
          have k2 : ((k : Nat) : Int) < (n : Int) + 1 := by omega
          have ltr := hT8.out.lt
          have T9 := hid (hT8.out.away (b := wo.heap.size) (j := k) ngf HNE.out (.int .i64 (-1)))
          have G9 := hid (gb_new hG8.out (b := wo.heap.size) (k := k) zo (.int .i64 (-1)))
          have C9 := hid ((World.cell?_setCell_other wr ⟨wo.heap.size, k, none⟩ ⟨gf, i, none⟩ (.int .i64 (-1)) (by intro e; injection e with e _ _; omega)).trans c8)
          have R9 := hid (show ∀ q, q < n + 1 → ∃ z, (wr.setCell ⟨wo.heap.size, k, none⟩ (.int .i64 (-1))).cell? ⟨wo.heap.size, q, none⟩ = some (.int .i64 z) ∧ (q < k + 1 → z = -1) from fun q hq => by
            by_cases e : q = k
            · subst e; exact ⟨-1, World.cell?_setCell_same _ _ _ cz, fun _ => rfl⟩
            · obtain ⟨y, cy, hy⟩ := hR8.out q hq
              exact ⟨y, (World.cell?_setCell_other _ _ _ _ (by intro e2; injection e2 with _ e2 _; omega)).trans cy, fun h => hy (by omega)⟩)
          go_wp2
          go_roundw
          case rel => exact ⟨k + 1, by omega, by go_num, T9, C9, R9, fun q => by simpa using hF8.out q, G9, by rw [World.size_setCell]; exact hz8⟩
          case measure => simp [intOf]; omega
        · have TM := hid (hT8.out.more (g := wo.heap.size) hC8.out (by omega) hz8 HNE.out (fun q hq => by
            obtain ⟨z, cz, hz⟩ := hR8.out q hq
            rw [cz, hz (by omega)]) hF8.out)
          have k2 : ¬ ((k : Nat) : Int) < (n : Int) + 1 := by omega
          go_wp2
          go_roundw
          case rel => exact ⟨i + 1, _, by omega, by go_num, TM, hG8, fun a ha => by
            by_cases e : a = i
            · subst e; simp only [if_true]; exact zo
            · simp only [if_neg e]; exact hX.out a (by omega)⟩
          case measure => simp [intOf]; omega
    · have ei : i = M + 1 := by omega
      subst ei
      have j2 : ¬ (((M + 1 : Nat) : Nat) : Int) < (M : Int) + 1 := by omega
      obtain ⟨c0, g00, g01, cr0, cf0⟩ := hT.out.row 0 (by omega)
      have cr := cr0 0 (by omega)
      have cf := cf0 0
      have T1 := hid (hT.out.set (i := 0) (k := 0) (by omega) (by omega) 0)
      have G1 := hid (gb_new hG.out (b := G 0) (k := 0) (hX.out 0 (by omega)) (.int .i64 0))
      have ltx := hT.out.lt
      have PIF := hid (Qm.PI.first v al)
      clear cr0 cf0
      go_wp2_with fail
      clear cr cf c0
      go_loopw [12] (fun iv wr => ∃ (i : Nat) (F : Nat → Nat → Int), i ≤ M ∧ iv = .int .i64 ((i : Int) + 1) ∧ Hid (Qm.PI v al F (i + 1) 1) ∧ Hid (FTab gf G (M + 1) M (n + 1) F wr) ∧ Hid (w6.grownBy wr (some gf))) (fun i _ => M + 1 - (intOf i).toNat)
      case atStart => exact ⟨0, _, by omega, rfl, PIF, T1, G1⟩
      case round =>
        clear PIF T1 G1 hT hG
        obtain ⟨i, F, hi1, rfl, hPI, hT, hG⟩ := hrel
        by_cases hlt : i < M
        · have j2 : (i : Int) + 1 < (M : Int) + 1 := by omega
          go_wp2_with fail
          go_loopw [13] (fun kv wr => ∃ (k : Nat) (F : Nat → Nat → Int), 1 ≤ k ∧ k ≤ n + 1 ∧ kv = .int .i64 k ∧ Hid (Qm.PI v al F (i + 1) k) ∧ Hid (FTab gf G (M + 1) M (n + 1) F wr) ∧ Hid (w6.grownBy wr (some gf))) (fun k _ => n + 1 - (intOf k).toNat)
          case atStart => exact ⟨1, F, by omega, by omega, rfl, hPI, hT, hG⟩
          case round =>
            clear hPI hT hG
            clear F
            obtain ⟨k, F, hk1, hk2, rfl, hPI, hT, hG⟩ := hrel
            by_cases hkn : k < n + 1
            · obtain ⟨p0, p1⟩ := (HPV6.out.gb hG.out (by omega)).2 k (by rw [VL.out]; omega)
              obtain ⟨q0, q1⟩ := (HPA6.out.gb hG.out (by omega)).2 (i + 1) (by rw [ALL.out]; omega)
              have EQ := hid (show v.getD k (0, 0) ≠ al.getD (i + 1) (0, 0) → Qm.PI v al F (i + 1) (k + 1) from hPI.out.skip)
              obtain ⟨⟨pa, pb⟩, hpp⟩ : ∃ p, p = v.getD k (0, 0) := ⟨_, rfl⟩
              obtain ⟨⟨qa, qb⟩, hqq⟩ : ∃ p, p = al.getD (i + 1) (0, 0) := ⟨_, rfl⟩
              rw [← hpp] at p0 p1 EQ
              rw [← hqq] at q0 q1 EQ
              dsimp only at p0 p1 q0 q1
              have gvr : gv < wr.heap.size := by have := hG.out.size; omega
              have gar : ga < wr.heap.size := by have := hG.out.size; omega
              have k1 : (0 : Int) ≤ (k : Nat) := by omega
              have k2 : ((k : Nat) : Int) < (n : Int) + 1 := by omega
              have j3 : (0 : Int) ≤ (i : Int) + 1 := by omega
              clear hpp hqq
              by_cases hne : pa = qa ∧ pb = qb
              · obtain ⟨rfl, rfl⟩ := hne
                go_wp2_with fail
                go_quiet (fail)
                have DQ : Below wr.heap.size wr (wr.drewN nq) := ⟨rfl, rfl, rfl, Nat.le_refl _, fun _ _ => rfl⟩
                have T9 := hid (hT.out.on DQ)
                have G9 := hid (gb_below hG.out DQ hG.out.size)
                have PJ0 := hid hPI.out.inner
                clear DQ p0 p1 q0 q1 EQ
                go_wp2_with fail
                go_loopw [14] (fun jv wr => ∃ (j : Int) (F : Nat → Nat → Int), -1 ≤ j ∧ j ≤ (k : Int) - 1 ∧ jv = .int .i64 j ∧ Hid (Qm.PJ v al F i k j) ∧ Hid (FTab gf G (M + 1) M (n + 1) F wr) ∧ Hid (w6.grownBy wr (some gf))) (fun j _ => (intOf j + 1).toNat)
                case atStart => exact ⟨(k : Int) - 1, F, by omega, by omega, rfl, PJ0, T9, G9⟩
                case round =>
                  clear hPI hT hG T9 G9 PJ0
                  clear F
                  obtain ⟨j, F, hj1, hj2, rfl, hPJ, hT, hG⟩ := hrel
                  by_cases hj0 : 0 ≤ j
                  · obtain ⟨q, rfl⟩ := Int.eq_ofNat_of_zero_le hj0
                    by_cases h12 : (k : Int) - q ≤ 12
                    · have b0 : decide ((0 : Int) ≤ (q : Nat)) = true := by simp
                      have b1 : decide ((k : Int) - (q : Nat) ≤ 12) = true := by simpa using h12
                      obtain ⟨c0, g00, g01, cr0, -⟩ := hT.out.row i (by omega)
                      have cr := cr0 q (by omega)
                      have jj0 : (0 : Int) ≤ (i : Nat) := by omega
                      have jj1 : ((i : Nat) : Int) < (M : Int) + 1 := by omega
                      have jj2 : ((q : Nat) : Int) < (n : Int) + 1 := by omega
                      have jj3 : (i : Int) + 1 - 1 = (i : Nat) := by omega
                      have ltx := hT.out.lt
                      have NOJ := hid (show ¬ (Qm.okV v q k ∧ 0 ≤ F i q) → Qm.PJ v al F i k ((q : Int) - 1) from hPJ.out.no)
                      have YEJ := hid (show Qm.okV v q k → 0 ≤ F i q → Qm.PJ v al (Qm.upd F (i + 1) k q) i k ((q : Int) - 1) from hPJ.out.yes)
                      obtain ⟨z, hz⟩ : ∃ z, z = F i q := ⟨_, rfl⟩
                      rw [← hz] at cr NOJ YEJ
                      clear cr0 hz
                      by_cases hzz : 0 ≤ z
                      · have SLN := hid (Qm.sl_len (v := v) (i := q) (j := k) (by omega) (by rw [VL.out]; omega))
                        have SMS := hid (show Qm.Small (Qm.sl v q k) from fun p hp => SV.out p (List.mem_of_mem_drop (List.mem_of_mem_take hp)))
                        have US := hid (HU.out.sl (i := q) (j := k) (by omega) (by rw [VL.out]; omega))
                        have KF := hid (kf_fit (v := v) (q := q) (k := k) (by omega) (by rw [VL.out]; omega) (by omega))
                        have FI := hid (keepFits_any gv (q * 2) (k + 1 - q) (capv - q) (Qm.sl v q k) (by rw [SLN.out]; omega) (by omega) SMS.out (by omega) US.out wr ((HPV6.out.gb hG.out (by omega)).sl q k))
                        rw [KF.out] at FI
                        have OKV := hid (show Qm.fitB (Qm.sl v q k) = true → Qm.okV v q k from fun h => ⟨by omega, by rw [VL.out]; omega, by omega, h⟩)
                        have NOV := hid (show Qm.fitB (Qm.sl v q k) = false → ¬ Qm.okV v q k from fun h hh => by rw [hh.2.2.2] at h; simp at h)
                        obtain ⟨ft, hft⟩ : ∃ ft, Qm.fitB (Qm.sl v q k) = ft := ⟨_, rfl⟩
                        rw [hft] at FI OKV NOV
                        have k3 : ((q : Nat) : Int) ≤ (k : Int) + 1 := by omega
                        have k4 : (k : Int) + 1 ≤ (capv : Nat) := by omega
                        clear hft KF SLN SMS US
                        go_wp2_with fail
                        refine FI.out.mono ?_
                        rintro e w9 ⟨rfl, hb9⟩
                        have T9 := hid (hT.out.on hb9)
                        have G9 := hid (gb_below hG.out hb9 hG.out.size)
                        clear hb9 c0 cr
                        cases ft
                        · go_wp2
                          go_roundw
                          case rel => exact ⟨(q : Int) - 1, F, by omega, by omega, rfl, NOJ.out (fun h => NOV.out (by trivial) h.1), T9, G9⟩
                          case measure => simp [intOf]
                        · obtain ⟨d0, e00, e01, dr0, df0⟩ := T9.out.row (i + 1) (by omega)
                          have dr := dr0 k hkn
                          have df := df0 k
                          have T10 := hid (T9.out.set (i := i + 1) (k := k) (by omega) hkn q)
                          have G10 := hid (gb_new G9.out (b := G (i + 1)) (k := k) (hX.out (i + 1) (by omega)) (.int .i64 (q : Int)))
                          have lt9 := T9.out.lt
                          obtain ⟨zz, hzz2⟩ : ∃ zz, zz = F (i + 1) k := ⟨_, rfl⟩
                          rw [← hzz2] at dr
                          obtain ⟨Gi, hGi⟩ : ∃ Gi, Gi = G (i + 1) := ⟨_, rfl⟩
                          rw [← hGi] at d0 e00 e01 dr df T10 G10
                          clear dr0 df0 hzz2 hGi
                          go_wp2
                          go_roundw
                          case rel => exact ⟨(q : Int) - 1, _, by omega, by omega, rfl, YEJ.out (OKV.out (by trivial)) hzz, T10, G10⟩
                          case measure => simp [intOf]
                      · go_wp2
                        go_roundw
                        case rel => exact ⟨(q : Int) - 1, F, by omega, by omega, rfl, NOJ.out (fun h => hzz h.2), hT, hG⟩
                        case measure => simp [intOf]
                    · have b0 : decide ((0 : Int) ≤ (q : Nat)) = true := by simp
                      have b1 : decide ((k : Int) - (q : Nat) ≤ 12) = false := by simpa using h12
                      have PN := hid (hPJ.out.done (.inr (by omega)))
                      go_wp2
                      go_roundw
                      case rel => exact ⟨k + 1, F, by omega, by omega, by go_num, PN, hT, hG⟩
                      case measure => simp [intOf]; omega
                  · have b0 : decide ((0 : Int) ≤ j) = false := by simpa using hj0
                    have PN := hid (hPJ.out.done (.inl (by omega)))
                    go_wp2
                    go_roundw
                    case rel => exact ⟨k + 1, F, by omega, by omega, by go_num, PN, hT, hG⟩
                    case measure => simp [intOf]; omega
              · have PN := hid (EQ.out (fun e => hne ⟨by injection e, by injection e⟩))
                by_cases e1 : pa = qa
                · have e2 : (pb == (qb : Int)) = false := by simp; exact fun e => hne ⟨e1, e⟩
                  subst e1
                  clear hne
                  go_wp2_with fail
                  go_quiet (fail)
                  go_wp2
                  go_roundw
                  case rel => exact ⟨k + 1, F, by omega, by omega, by go_num, PN, hT.out.on ⟨rfl, rfl, rfl, Nat.le_refl _, fun _ _ => rfl⟩, gb_below hG.out (B := wr.heap.size) ⟨rfl, rfl, rfl, Nat.le_refl _, fun _ _ => rfl⟩ hG.out.size⟩
                  case measure => simp [intOf]; omega
                · have e2 : (pa == (qa : Int)) = false := by simp; exact e1
                  clear hne
                  go_wp2_with fail
                  go_quiet (fail)
                  go_wp2
                  go_roundw
                  case rel => exact ⟨k + 1, F, by omega, by omega, by go_num, PN, hT.out.on ⟨rfl, rfl, rfl, Nat.le_refl _, fun _ _ => rfl⟩, gb_below hG.out (B := wr.heap.size) ⟨rfl, rfl, rfl, Nat.le_refl _, fun _ _ => rfl⟩ hG.out.size⟩
                  case measure => simp [intOf]; omega
            · have PN := hid (hPI.out.row (by rw [VL.out]; omega))
              have k2 : ¬ ((k : Nat) : Int) < (n : Int) + 1 := by omega
              go_wp2
              go_roundw
              case rel => exact ⟨i + 1, F, by omega, by go_num, PN, hT, hG⟩
              case measure => simp [intOf]; omega
        · have eiM : i = M := by omega
          subst eiM
          have HAS := hid (show 0 ≤ F i n by
            have := hPI.out.has (M := i) OPT.out.1 IL.out AT.out i (Nat.le_refl _)
            have l := OPT.out.1.last
            rw [IL.out, Nat.add_sub_cancel] at l
            rwa [l] at this)
          have SND := hid hPI.out.snd
          have j2 : ¬ (i : Int) + 1 < (i : Int) + 1 := by omega
          obtain ⟨wo, rfl⟩ : ∃ wo, wo = wr := ⟨_, rfl⟩
          have zo := hG.out.size
          go_wp2_with (first
            | (at_make; refine wpList_make_full _ rfl _ _ 33 rfl wo.heap.size 3 ii (.int .i64 0) 1 Try.underlying33 hii hi0 hi1' .i64 .i64 _ _ (i + 1) rfl rfl (by simp) (by simp) (by rw [hi2]; omega) m2 (Nat.le_refl _) ?_))
          intro w7 o7 g7
          have b7 : Below wo.heap.size wo w7 := ⟨g7.os, g7.tape, g7.output, g7.size, fun k hk => g7.block k hk (by simp)⟩
          have z7 : wo.heap.size < w7.heap.size := (o7.lt wo.heap.size rfl).2
          have T7 := hid (hT.out.on b7)
          have G7 := hid (gb_below hG.out b7 hG.out.size)
          have RC := hid (show ∀ a, a ≤ i → ∃ z, w7.cell? ⟨wo.heap.size, a, none⟩ = some (.int .i64 z) from fun q hq => ⟨0, by
            have := o7.cells (g := wo.heap.size) rfl q _ (by have := madeInts_at (i + 1) q (by omega); simpa using this)
            rwa [add_zero_at] at this⟩)
          have FZ := hid (show ∀ q, w7.frozen? ⟨wo.heap.size, q, none⟩ = false from fun q => own_fz o7 q)
          have NE := hid (show ∀ a, a < i + 1 → wo.heap.size ≠ G a from fun a ha => by have := (hT.out.row a ha).2.2.1; omega)
          have ngf : wo.heap.size ≠ gf := by have := hT.out.lt; omega
          obtain ⟨gw, hgw⟩ : ∃ gw, gw = wo.heap.size := ⟨_, rfl⟩
          rw [← hgw] at RC FZ NE ngf z7 ⊢
          have zgw : w6.heap.size ≤ gw := by omega
          clear o7 g7 b7 hgw hT hG
          go_wp2_with fail
          go_loopw [16, 18] (fun av iv wr => ∃ (r : Nat) (t : Int) (f : Nat → Nat), r ≤ i + 1 ∧ iv = .int .i64 ((r : Int) - 1) ∧ av = .int .i64 t ∧ Hid (Qm.BK v F i n r t f) ∧ Hid (FTab gf G (i + 1) i (n + 1) F wr) ∧ Hid (w6.grownBy wr (some gf)) ∧ Hid (∀ a, a ≤ i → ∃ z, wr.cell? ⟨gw, a, none⟩ = some (.int .i64 z)) ∧ Hid (∀ q, wr.frozen? ⟨gw, q, none⟩ = false) ∧ Hid (∀ a, r ≤ a → a ≤ i → wr.cell? ⟨gw, a, none⟩ = some (.int .i64 (f a : Nat))) ∧ gw < wr.heap.size) (fun _ i _ => (intOf i + 1).toNat)
          case atStart => exact ⟨i + 1, n, fun _ => 0, by omega, by go_num, by go_num, Qm.BK.start HAS.out, T7, G7, RC, FZ, fun a h1 h2 => by omega, z7⟩
          case round =>
            clear T7 G7 RC FZ
            obtain ⟨r, t, f, hr, rfl, rfl, hBK, hT, hG, hRC, hFZ, hRW, hz⟩ := hrel
            rcases Nat.eq_zero_or_pos r with hr0 | hr0
            · subst hr0
              have PTH := hid hBK.out.path
              have NUM := hid (show NumsAt gw ((List.range (i + 1)).map f) wr from ⟨hz, fun q hq => by
                simp at hq
                rw [hRW.out q (by omega) (by omega)]
                simp [List.getD_eq_getElem?_getD, show q < i + 1 by omega]⟩)
              have LL := hid (show ((List.range (i + 1)).map f).length = i + 1 by simp)
              have BE := hid (show Below w.heap.size w wr from B6.out.trans (gb_below_of hG.out wgf B6.out.size))
              go_wp2
              go_ret2
              exact ⟨gw, i + 1, _, by rw [LL.out]; rfl, LL.out, PTH.out, NUM.out, BE.out⟩
            · obtain ⟨q, rfl⟩ : ∃ q, r = q + 1 := ⟨r - 1, by omega⟩
              obtain ⟨t', et, ht, _, _⟩ := hBK.out.here q rfl
              subst et
              obtain ⟨_, ST⟩ := hBK.out.step SND.out (by omega)
              have tn : t' < n + 1 := by
                rcases SND.out q t' ht with ⟨_, h, _⟩ | ⟨_, _, _, _, ok, _⟩
                · omega
                · have := ok.2.1; rw [VL.out] at this; exact this
              obtain ⟨c0, g00, g01, cr0, -⟩ := hT.out.row q (by omega)
              have cr := cr0 t' tn
              obtain ⟨zz, cz⟩ := hRC.out q (by omega)
              have fz := hFZ.out q
              have ltx := hT.out.lt
              have q1 : (0 : Int) ≤ (q : Nat) := by omega
              have q2 : ((q : Nat) : Int) < (i : Int) + 1 := by omega
              have q3 : ((q + 1 : Nat) : Int) - 1 = (q : Nat) := by omega
              have q4 : (q : Int) + 1 - 1 = (q : Nat) := by omega
              have t1' : (0 : Int) ≤ (t' : Nat) := by omega
              have t2' : ((t' : Nat) : Int) < (n : Int) + 1 := by omega
              have t3' : ¬ (t' : Int) < 0 := by omega
              have STH := hid ST
              have T8 := hid (hT.out.away (b := gw) (j := q) ngf NE.out (.int .i64 (t' : Int)))
              have G8 := hid (gb_new hG.out (b := gw) (k := q) zgw (.int .i64 (t' : Int)))
              have RC8 := hid (show ∀ a, a ≤ i → ∃ z, (wr.setCell ⟨gw, q, none⟩ (.int .i64 (t' : Int))).cell? ⟨gw, a, none⟩ = some (.int .i64 z) from fun a ha => by
                by_cases e : a = q
                · subst e; exact ⟨t', World.cell?_setCell_same _ _ _ cz⟩
                · obtain ⟨y, cy⟩ := hRC.out a ha
                  exact ⟨y, (World.cell?_setCell_other _ _ _ _ (by intro e2; injection e2 with _ e2 _; omega)).trans cy⟩)
              have RW8 := hid (show ∀ a, q ≤ a → a ≤ i → (wr.setCell ⟨gw, q, none⟩ (.int .i64 (t' : Int))).cell? ⟨gw, a, none⟩ = some (.int .i64 ((if a = q then t' else f a : Nat) : Int)) from fun a h1 h2 => by
                by_cases e : a = q
                · subst e; rw [if_pos rfl]; exact World.cell?_setCell_same _ _ _ cz
                · rw [if_neg e]
                  exact (World.cell?_setCell_other _ _ _ _ (by intro e2; injection e2 with _ e2 _; omega)).trans (hRW.out a (by omega) h2))
              have ht0 : ¬ F q t' < 0 := by omega
              obtain ⟨fq, hfq⟩ : ∃ fq, fq = F q t' := ⟨_, rfl⟩
              rw [← hfq] at cr STH ht0
              obtain ⟨Gq, hGq⟩ : ∃ Gq, Gq = G q := ⟨_, rfl⟩
              rw [← hGq] at c0 g00 g01 cr
              have NEq : gw ≠ Gq := by rw [hGq]; exact NE.out q (by omega)
              clear cr0 ST hfq hGq
              go_wp2
              go_roundw
              case rel => exact ⟨q, fq, _, by omega, by go_num, rfl, STH, T8, G8, RC8, fun a => by simpa using hFZ.out a, RW8, by rw [World.size_setCell]; exact hz⟩
              case measure => simp [intOf]
end Go.Proofs.Ytljfiefobnncaaa
