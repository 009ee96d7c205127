/- outlineref.sorted, walked. -/
import Derived.Test.YtljfiefobnncaaaDh
namespace Go.Proofs.Ytljfiefobnncaaa
open Go.RowKit
attribute [local go_sem ↓] Go.wp_at_zero Go.wp_at_succ

theorem two_at (w : World) (g : Nat) (a b : Value) (t : TypeId) (hg : g = w.heap.size) : ∀ j u, [a, b][j]? = some u → (w.alloc (.cells #[a, b] t)).cell? ((⟨g, 0, none⟩ : Addr).add j) = some u := by
  subst hg
  intro j u hj
  rw [add_zero_at, World.cell?_alloc_new]
  simpa using hj

theorem two_oneD {a b : Value} (ha : a.oneCell' = true) (hb : b.oneCell' = true) : ∀ u ∈ [a, b], u.oneCell' = true := by
  intro u hu
  simp at hu
  rcases hu with rfl | rfl <;> assumption

/-- A box of two cells stands; below it all is as it was. -/
def Bx2 (B : Nat) (a b : Value) (w wr : World) : Prop := wr.cell? ⟨B, 0, none⟩ = some a ∧ wr.cell? ⟨B, 1, none⟩ = some b ∧ Below B w wr ∧ B < wr.heap.size
theorem Bx2.onB {B : Nat} {a b : Value} {w wr w2 : World} (h : Bx2 B a b w wr) (hb : Below (B + 1) wr w2) : Bx2 B a b w w2 :=
  ⟨(hb.cell (p := ⟨B, 0, none⟩) (by simp)).trans h.1, (hb.cell (p := ⟨B, 1, none⟩) (by simp)).trans h.2.1, h.2.2.1.trans (hb.mono (by omega)), Nat.lt_of_lt_of_le h.2.2.2 hb.size⟩

set_option maxRecDepth 4000 in
set_option maxHeartbeats 2000000 in
theorem sorted_any (ao : Option Addr) (n cap : Nat) (L : List Ent) (e0 : Ent) (w : World) (hL : n = L.length) (hl : n = 0 ∨ ∃ gl, ao = some ⟨gl, 0, none⟩ ∧ EntsAt gl L w) (h0 : HeadAt e0.1 e0.2.2 w) (hs : 0 ≤ e0.2.2.1 ∧ e0.2.2.1 ≤ 32) (hn : n ≤ 5000) :
    Calls Try.prog 55 #[.slice ao n cap, .agg #[e0.1, .int .i64 e0.2.1]] w fun e w' => ∃ v out, e = .returned v ∧ InsOut L e0 out ∧ w'.ownsRow w.heap.size 43 2 v (n + 1) (entV out) ∧ Below w.heap.size w w' := by
  obtain ⟨i0, hi, hz0, hz1, hz2⟩ := info_parts infoShape
  obtain ⟨v0, tw0, x0, y0⟩ := e0
  dsimp only at h0 hs
  have H0 := hid h0
  obtain ⟨g0, n0, cap0, rfl, hn0, hg0, p0, p1⟩ := h0
  have HLL := hid hL
  have HL := hid hl
  obtain ⟨E0, hE0⟩ : ∃ E0 : Ent, E0 = (.slice (some ⟨g0, 0, none⟩) n0 cap0, tw0, x0, y0) := ⟨_, rfl⟩
  rw [← hE0]
  have HE0 := hid hE0
  have k0 : Hid (keyP E0.2.2 = keyP (x0, y0)) := by rw [hE0]; rfl
  have vE : (E0.1 = .slice (some ⟨g0, 0, none⟩) n0 cap0) := by rw [hE0]
  have tE : (E0.2.1 = tw0) := by rw [hE0]
  rw [vE, tE]
  have ent0 : Hid (∀ out : List Ent, entV (out ++ [E0]) = entV out ++ [.slice (some ⟨g0, 0, none⟩) n0 cap0, .int .i64 tw0]) := fun out => by rw [entV_app]; simp [entV, vE, tE]
  clear hL hl hE0 vE tE
  go_enter Try.func55, Try.ntmps55
  go_wp2
  go_loopw [5, 6, 7] (fun ov bv iv wr => ∃ (i : Nat) (b : Bool) (out : List Ent), i ≤ n ∧ iv = .int .i64 i ∧ bv = .bool b ∧ Hid (InsAt L E0 i b out) ∧ out.length ≤ i + 1 ∧ Hid (out.length = i + if b then 1 else 0) ∧ Hid (wr.ownsRow (w.heap.size + 1) 43 2 ov out.length (entV out)) ∧ Hid (Bx2 w.heap.size (.slice (some ⟨g0, 0, none⟩) n0 cap0) (.int .i64 tw0) w wr)) (fun _ _ i _ => n - (intOf i).toNat)
  case atStart => exact ⟨0, false, [], by omega, rfl, rfl, .inl ⟨rfl, rfl, fun j hj => by omega⟩, by simp, hid (by simp), World.ownsRow_nil _ _ _ _, ⟨by simp, by simp, by go_grown, by simp⟩⟩
  case round =>
    obtain ⟨i, b, out, hin, rfl, rfl, hI, hol, hol2, hown, hX⟩ := hrel
    obtain ⟨b0, b1, -, hz⟩ := hX.out
    by_cases hlt : i < n
    · obtain ⟨gl, rfl, hEA⟩ := HL.out.resolve_left (by omega)
      have HEA := hid hEA
      have hgl := hEA.lt
      clear hEA
      have hiL : i < L.length := by have := HLL.out; omega
      obtain ⟨Ei, hEi⟩ : ∃ Ei, Ei = L.getD i E0 := ⟨_, rfl⟩
      have hmem : Ei ∈ L := by rw [hEi, List.getD_eq_getElem?_getD, List.getElem?_eq_getElem hiL]; exact List.getElem_mem hiL
      obtain ⟨hhd, si0, si1⟩ := HEA.out.heads Ei hmem
      have HEi := hid hEi
      obtain ⟨vi, twi, xi, yi⟩ := Ei
      dsimp only at hhd si0 si1
      obtain ⟨gi, ni, capi, rfl, hni, hgi, q0, q1⟩ := hhd
      have rd : ∀ (wx : World), Below w.heap.size w wx → wx.cell? ⟨g0, 0, none⟩ = some (.int .i64 x0) ∧ wx.cell? ⟨g0, 1, none⟩ = some (.int .i64 y0) ∧ wx.cell? ⟨gi, 0, none⟩ = some (.int .i64 xi) ∧ wx.cell? ⟨gi, 1, none⟩ = some (.int .i64 yi) ∧ wx.cell? ⟨gl, i * 2, none⟩ = some (.slice (some ⟨gi, 0, none⟩) ni capi) ∧ wx.cell? ⟨gl, i * 2 + 1, none⟩ = some (.int .i64 twi) := fun wx hx => by
        have a := HEA.out.cells i E0 hiL
        rw [← HEi.out] at a
        exact ⟨(hx.cell (p := ⟨g0, 0, none⟩) hg0).trans p0, (hx.cell (p := ⟨g0, 1, none⟩) hg0).trans p1, (hx.cell (p := ⟨gi, 0, none⟩) hgi).trans q0, (hx.cell (p := ⟨gi, 1, none⟩) hgi).trans q1, (hx.cell (p := ⟨gl, i * 2, none⟩) hgl).trans a.1, (hx.cell (p := ⟨gl, i * 2 + 1, none⟩) hgl).trans a.2⟩
      have RD := hid rd
      have ki : Hid (keyP (L.getD i E0).2.2 = keyP (xi, yi)) := by rw [← HEi.out]; rfl
      have enti : Hid (∀ out : List Ent, entV (out ++ [L.getD i E0]) = entV out ++ [.slice (some ⟨gi, 0, none⟩) ni capi, .int .i64 twi]) := fun out => by rw [entV_app, ← HEi.out]; simp [entV]
      clear rd hEi p0 p1 q0 q1
      obtain ⟨m0, m1, m2, m3, m4, m5⟩ := RD.out _ hX.out.2.2.1
      have i0' : (0 : Int) ≤ (i : Nat) := by omega
      have i1' : ((i : Nat) : Int) < (n : Nat) := by omega
      have j1' : (0 : Int) < (n0 : Nat) := by omega
      have j2' : (0 : Int) < (ni : Nat) := by omega
      go_wp2_with fail
      go_region_held3 (fun w' => w'.cell? ⟨w.heap.size, 0, none⟩ = some (.slice (some ⟨g0, 0, none⟩) n0 cap0) ∧ w'.cell? ⟨g0, 0, none⟩ = some (.int .i64 x0) ∧ w'.cell? ⟨g0, 1, none⟩ = some (.int .i64 y0) ∧ w'.cell? ⟨gi, 0, none⟩ = some (.int .i64 xi) ∧ w'.cell? ⟨gi, 1, none⟩ = some (.int .i64 yi) ∧ w'.cell? ⟨gl, i * 2, none⟩ = some (.slice (some ⟨gi, 0, none⟩) ni capi))
        (first | exact ⟨b0, m0, m1, m2, m3, m4⟩ | (have hr := RD.out _ X2.out.2.2.1; exact ⟨X2.out.1, hr.1, hr.2.1, hr.2.2.1, hr.2.2.2.1, hr.2.2.2.2.1⟩))
        ((go_at_call 75; refine (ahead_any x0 y0 xi yi hs ⟨si0, si1⟩ _).mono ?_; rintro e w2 ⟨rfl, hb2⟩; have L2 := hid (show Below wr.heap.size wr w2 from Below.trans (b := _) ((Below.refl _ _).drew) hb2); have X2 := hid (hX.out.onB (L2.out.mono (by omega))); clear hb2))
      have O2 := hid (own_below hown.out L2.out)
      have z2 := L2.out.size
      obtain ⟨c0, c1, -, -⟩ := X2.out
      clear b0 b1 m0 m1 m2 m3 m4 m5
      obtain ⟨m0, m1, m2, m3, m4, m5⟩ := RD.out _ X2.out.2.2.1
      cases ha : decide (keyP (x0, y0) < keyP (xi, yi))
      · have hna : ¬ keyP E0.2.2 < keyP (L.getD i E0).2.2 := by rw [k0.out, ki.out]; simpa using ha
        have HNX := hid (hI.out.go hiL (.inr hna))
        clear hna
        cases b
        · go_wp2_with (first
            | (at_builtin; refine wpList_append_own _ rfl _ _ 35 rfl (w.heap.size + 1) 43 i0 (.agg #[.slice none 0 0, .int .i64 0]) 2 32 Try.underlying35 hi hz0 hz1 hz2 rfl (by decide) _ _ _ rfl (O2.out.alloc _) ⟨_, 0, none⟩ 1 1 [.slice (some ⟨gi, 0, none⟩) ni capi, .int .i64 twi] rfl rfl (two_at _ _ _ _ _ rfl) (two_oneD rfl rfl) (by unfold maxLen; omega) (by omega) (by simp; omega) ?_))
          intro v3 w3 o3 g3 _
          have Bl3 := hid (show Below (w.heap.size + 1) w2 w3 from ((Below.refl _ _).alloc (by omega) _).grown g3 (by simp; omega) (fun q hq => (O2.out.lt q hq).1))
          have X3 := hid (Bx2.onB X2.out Bl3.out)
          have z3 := Bl3.out.size
          have O3 := hid o3
          clear o3 g3
          go_wp2
          go_roundw
          case rel => exact ⟨i + 1, _, out ++ [L.getD i E0], by omega, by go_num, rfl, HNX, by simp; omega, hid (by simp; have := hol2.out; simp at this; omega), hid (by rw [enti.out, List.length_append]; exact O3.out), X3⟩
          case measure => simp [intOf]; omega
        · go_wp2_with (first
            | (at_builtin; refine wpList_append_own _ rfl _ _ 35 rfl (w.heap.size + 1) 43 i0 (.agg #[.slice none 0 0, .int .i64 0]) 2 32 Try.underlying35 hi hz0 hz1 hz2 rfl (by decide) _ _ _ rfl (O2.out.alloc _) ⟨_, 0, none⟩ 1 1 [.slice (some ⟨gi, 0, none⟩) ni capi, .int .i64 twi] rfl rfl (two_at _ _ _ _ _ rfl) (two_oneD rfl rfl) (by unfold maxLen; omega) (by omega) (by simp; omega) ?_))
          intro v3 w3 o3 g3 _
          have Bl3 := hid (show Below (w.heap.size + 1) w2 w3 from ((Below.refl _ _).alloc (by omega) _).grown g3 (by simp; omega) (fun q hq => (O2.out.lt q hq).1))
          have X3 := hid (Bx2.onB X2.out Bl3.out)
          have z3 := Bl3.out.size
          have O3 := hid o3
          clear o3 g3
          go_wp2
          go_roundw
          case rel => exact ⟨i + 1, _, out ++ [L.getD i E0], by omega, by go_num, rfl, HNX, by simp; omega, hid (by simp; have := hol2.out; simp at this; omega), hid (by rw [enti.out, List.length_append]; exact O3.out), X3⟩
          case measure => simp [intOf]; omega
      · have hya : keyP E0.2.2 < keyP (L.getD i E0).2.2 := by rw [k0.out, ki.out]; simpa using ha
        cases b
        · have HNX := hid (hI.out.put hiL hya)
          clear hya
          go_wp2_with (first
            | (at_builtin; refine wpList_append_own _ rfl _ _ 35 rfl (w.heap.size + 1) 43 i0 (.agg #[.slice none 0 0, .int .i64 0]) 2 32 Try.underlying35 hi hz0 hz1 hz2 rfl (by decide) _ _ _ rfl (O2.out.alloc _) ⟨_, 0, none⟩ 1 1 [.slice (some ⟨g0, 0, none⟩) n0 cap0, .int .i64 tw0] rfl rfl (two_at _ _ _ _ _ rfl) (two_oneD rfl rfl) (by unfold maxLen; omega) (by omega) (by simp; omega) ?_))
          intro v3 w3 o3 g3 _
          have Bl3 := hid (show Below (w.heap.size + 1) w2 w3 from ((Below.refl _ _).alloc (by omega) _).grown g3 (by simp; omega) (fun q hq => (O2.out.lt q hq).1))
          have X3 := hid (Bx2.onB X2.out Bl3.out)
          have z3 := Bl3.out.size
          have O3 := hid o3
          clear o3 g3
          obtain ⟨d0, d1, -, -⟩ := X3.out
          clear c0 c1 m0 m1 m2 m3 m4 m5
          obtain ⟨m0, m1, m2, m3, m4, m5⟩ := RD.out _ X3.out.2.2.1
          go_wp2_with (first
            | (at_builtin; refine wpList_append_own _ rfl _ _ 35 rfl (w.heap.size + 1) 43 i0 (.agg #[.slice none 0 0, .int .i64 0]) 2 32 Try.underlying35 hi hz0 hz1 hz2 rfl (by decide) _ _ _ rfl (O3.out.alloc _) ⟨_, 0, none⟩ 1 1 [.slice (some ⟨gi, 0, none⟩) ni capi, .int .i64 twi] rfl rfl (two_at _ _ _ _ _ rfl) (two_oneD rfl rfl) (by unfold maxLen; omega) (by omega) (by simp; omega) ?_))
          intro v4 w4 o4 g4 _
          have Bl4 := hid (show Below (w.heap.size + 1) w3 w4 from ((Below.refl _ _).alloc (by omega) _).grown g4 (by simp; omega) (fun q hq => (O3.out.lt q hq).1))
          have X4 := hid (Bx2.onB X3.out Bl4.out)
          have z4 := Bl4.out.size
          have O4 := hid o4
          clear o4 g4
          go_wp2
          go_roundw
          case rel => exact ⟨i + 1, true, out ++ [E0] ++ [L.getD i E0], by omega, by go_num, rfl, HNX, by simp; have := hol2.out; simp at this; omega, hid (by simp; have := hol2.out; simp at this; omega), hid (by rw [enti.out, ent0.out, List.length_append, List.length_append, List.append_assoc]; exact O4.out), X4⟩
          case measure => simp [intOf]; omega
        · have HNX := hid (hI.out.go hiL (.inl rfl))
          clear hya
          go_wp2_with (first
            | (at_builtin; refine wpList_append_own _ rfl _ _ 35 rfl (w.heap.size + 1) 43 i0 (.agg #[.slice none 0 0, .int .i64 0]) 2 32 Try.underlying35 hi hz0 hz1 hz2 rfl (by decide) _ _ _ rfl (O2.out.alloc _) ⟨_, 0, none⟩ 1 1 [.slice (some ⟨gi, 0, none⟩) ni capi, .int .i64 twi] rfl rfl (two_at _ _ _ _ _ rfl) (two_oneD rfl rfl) (by unfold maxLen; omega) (by omega) (by simp; omega) ?_))
          intro v3 w3 o3 g3 _
          have Bl3 := hid (show Below (w.heap.size + 1) w2 w3 from ((Below.refl _ _).alloc (by omega) _).grown g3 (by simp; omega) (fun q hq => (O2.out.lt q hq).1))
          have X3 := hid (Bx2.onB X2.out Bl3.out)
          have z3 := Bl3.out.size
          have O3 := hid o3
          clear o3 g3
          go_wp2
          go_roundw
          case rel => exact ⟨i + 1, _, out ++ [L.getD i E0], by omega, by go_num, rfl, HNX, by simp; omega, hid (by simp; have := hol2.out; simp at this; omega), hid (by rw [enti.out, List.length_append]; exact O3.out), X3⟩
          case measure => simp [intOf]; omega
    · have e1 : i = n := by omega
      have hIL : InsAt L E0 L.length b out := by rw [← HLL.out, ← e1]; exact hI.out
      have HIL := hid hIL
      clear hIL
      cases b
      · have HO := hid HIL.out.last
        go_wp2_with (first
          | (at_builtin; refine wpList_append_own _ rfl _ _ 35 rfl (w.heap.size + 1) 43 i0 (.agg #[.slice none 0 0, .int .i64 0]) 2 32 Try.underlying35 hi hz0 hz1 hz2 rfl (by decide) _ _ _ rfl (hown.out.alloc _) ⟨_, 0, none⟩ 1 1 [.slice (some ⟨g0, 0, none⟩) n0 cap0, .int .i64 tw0] rfl rfl (two_at _ _ _ _ _ rfl) (two_oneD rfl rfl) (by unfold maxLen; omega) (by omega) (by simp; omega) ?_))
        intro v3 w3 o3 g3 _
        have Bl3 := hid (show Below (w.heap.size + 1) wr w3 from ((Below.refl _ _).alloc (by omega) _).grown g3 (by simp; omega) (fun q hq => (hown.out.lt q hq).1))
        have X3 := hid (Bx2.onB hX.out Bl3.out)
        have z3 := Bl3.out.size
        have O3 := hid o3
        clear o3 g3
        go_wp2
        go_ret
        refine ⟨_, out ++ [E0], rfl, HO.out, ?_, X3.out.2.2.1⟩
        have := O3.out
        rw [← ent0.out, show out.length = n by have := hol2.out; simp at this; omega] at this
        exact this.mono (by omega)
      · have HO := hid HIL.out.done
        go_wp2
        go_ret
        refine ⟨_, rfl, out, HO.out, ?_, hX.out.2.2.1⟩
        have := hown.out
        rw [show out.length = n + 1 by have := hol2.out; simp at this; omega] at this
        exact this.mono (by omega)
end Go.Proofs.Ytljfiefobnncaaa
