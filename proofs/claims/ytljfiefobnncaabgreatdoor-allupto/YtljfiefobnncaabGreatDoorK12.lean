import Derived.Test.YtljfiefobnncaabGreatDoorK08
import Derived.Test.YtljfiefobnncaabGreatDoorK11
import Derived.Test.YtljfiefobnncaabGreatDoorK05
import Derived.Test.YtljfiefobnncaabGreatDoorK06

/- outlineref.sorted. -/
namespace Go.Proofs.YtljfiefobnncaabGreatDoor
open Go.RowKit
attribute [local go_sem ↓] Go.wp_at_zero Go.wp_at_succ

/-- A shape: where its points are, twice its area; and its first point. -/
abbrev Ent : Type := Value × Int × (Int × Int)
def entV (L : List Ent) : List Value := L.flatMap fun e => [e.1, .int .i64 e.2.1]
theorem entV_app (a b : List Ent) : entV (a ++ b) = entV a ++ entV b := by simp [entV]
theorem entV_len (L : List Ent) : (entV L).length = L.length * 2 := by
  induction L with
  | nil => rfl
  | cons p l ih => simp only [entV, List.flatMap_cons, List.length_append] at *; rw [ih]; simp; omega
theorem entV_at (L : List Ent) (e0 : Ent) : ∀ j, j < L.length → (entV L)[j * 2]? = some (L.getD j e0).1 ∧ (entV L)[j * 2 + 1]? = some (.int .i64 (L.getD j e0).2.1) := by
  induction L with
  | nil => intro j hj; simp at hj
  | cons p l ih =>
    intro j hj
    cases j with
    | zero => simp [entV]
    | succ j =>
      have := ih j (by simpa using hj)
      have e : entV (p :: l) = p.1 :: .int .i64 p.2.1 :: entV l := by simp [entV]
      rw [e, show (j + 1) * 2 = j * 2 + 1 + 1 from by omega, show j * 2 + 1 + 1 + 1 = (j * 2 + 1) + 1 + 1 from by omega]
      simpa using this

/-- The points of v begin with p. -/
def HeadAt (v : Value) (p : Int × Int) (w : World) : Prop := ∃ g n cap, v = .slice (some ⟨g, 0, none⟩) n cap ∧ 0 < n ∧ g < w.heap.size ∧ w.cell? ⟨g, 0, none⟩ = some (.int .i64 p.1) ∧ w.cell? ⟨g, 1, none⟩ = some (.int .i64 p.2)
/-- The row of shapes stands, with the first point of each. -/
structure EntsAt (gl : Nat) (L : List Ent) (w : World) : Prop where
  lt : gl < w.heap.size
  cells : ∀ j e0, j < L.length → w.cell? ⟨gl, j * 2, none⟩ = some (L.getD j e0).1 ∧ w.cell? ⟨gl, j * 2 + 1, none⟩ = some (.int .i64 (L.getD j e0).2.1)
  heads : ∀ e ∈ L, HeadAt e.1 e.2.2 w ∧ 0 ≤ e.2.2.1 ∧ e.2.2.1 ≤ 32
theorem HeadAt.on {v : Value} {p : Int × Int} {w w' : World} (h : HeadAt v p w) (hb : Below w.heap.size w w') : HeadAt v p w' := by
  obtain ⟨g, n, cap, e, h0, hg, c0, c1⟩ := h
  exact ⟨g, n, cap, e, h0, Nat.lt_of_lt_of_le hg hb.size, (hb.cell (p := ⟨g, 0, none⟩) hg).trans c0, (hb.cell (p := ⟨g, 1, none⟩) hg).trans c1⟩
theorem EntsAt.on {gl : Nat} {L : List Ent} {w w' : World} (h : EntsAt gl L w) (hb : Below w.heap.size w w') : EntsAt gl L w' :=
  ⟨Nat.lt_of_lt_of_le h.lt hb.size, fun j e0 hj => ⟨(hb.cell (p := ⟨gl, j * 2, none⟩) h.lt).trans (h.cells j e0 hj).1, (hb.cell (p := ⟨gl, j * 2 + 1, none⟩) h.lt).trans (h.cells j e0 hj).2⟩, fun e he => ⟨(h.heads e he).1.on hb, (h.heads e he).2⟩⟩

/-- What has been laid behind i of them: before the new one has its place, and behind. -/
def InsAt (L : List Ent) (e0 : Ent) (i : Nat) (b : Bool) (out : List Ent) : Prop :=
  (b = false ∧ out = L.take i ∧ ∀ j, j < i → ¬ keyP e0.2.2 < keyP (L.getD j e0).2.2) ∨
  (b = true ∧ ∃ j, j < i ∧ j < L.length ∧ out = L.take j ++ e0 :: (L.drop j).take (i - j) ∧ (∀ m, m < j → ¬ keyP e0.2.2 < keyP (L.getD m e0).2.2) ∧ keyP e0.2.2 < keyP (L.getD j e0).2.2)
theorem take_getD (L : List Ent) (e0 : Ent) (i : Nat) (h : i < L.length) : L.take (i + 1) = L.take i ++ [L.getD i e0] := by
  rw [List.take_succ_eq_append_getElem h, List.getD_eq_getElem?_getD, List.getElem?_eq_getElem h]; rfl
theorem drop_take_getD (L : List Ent) (e0 : Ent) (j i : Nat) (hj : j ≤ i) (h : i < L.length) : (L.drop j).take (i + 1 - j) = (L.drop j).take (i - j) ++ [L.getD i e0] := by
  rw [show i + 1 - j = (i - j) + 1 from by omega, List.take_succ_eq_append_getElem (by simp; omega)]
  congr 1
  rw [List.getD_eq_getElem?_getD, List.getElem?_eq_getElem h, List.getElem_drop]
  simp only [Option.getD_some, List.cons.injEq, and_true]
  congr 1; omega
/-- The new one comes first. -/
theorem InsAt.put {L : List Ent} {e0 : Ent} {i : Nat} {out : List Ent} (h : InsAt L e0 i false out) (hi : i < L.length) (ha : keyP e0.2.2 < keyP (L.getD i e0).2.2) : InsAt L e0 (i + 1) true (out ++ [e0] ++ [L.getD i e0]) := by
  rcases h with ⟨_, rfl, h3⟩ | ⟨h1, _⟩
  · refine .inr ⟨rfl, i, by omega, hi, ?_, h3, ha⟩
    rw [drop_take_getD L e0 i i (Nat.le_refl _) hi]
    simp
  · cases h1
theorem InsAt.go {L : List Ent} {e0 : Ent} {i : Nat} {b : Bool} {out : List Ent} (h : InsAt L e0 i b out) (hi : i < L.length) (ha : b = true ∨ ¬ keyP e0.2.2 < keyP (L.getD i e0).2.2) : InsAt L e0 (i + 1) b (out ++ [L.getD i e0]) := by
  rcases h with ⟨rfl, rfl, h3⟩ | ⟨rfl, j, h1, h2, rfl, h3, h4⟩
  · refine .inl ⟨rfl, (take_getD L e0 i hi).symm, fun j hj => ?_⟩
    rcases Nat.lt_or_ge j i with h5 | h5
    · exact h3 j h5
    · obtain rfl : j = i := by omega
      exact ha.resolve_left (by simp)
  · refine .inr ⟨rfl, j, by omega, h2, ?_, h3, h4⟩
    rw [drop_take_getD L e0 j i (by omega) hi]
    simp
/-- The whole, with the new one in its place. -/
def InsOut (L : List Ent) (e0 : Ent) (out : List Ent) : Prop := ∃ j, j ≤ L.length ∧ out = L.take j ++ e0 :: L.drop j ∧ (∀ m, m < j → ¬ keyP e0.2.2 < keyP (L.getD m e0).2.2) ∧ (j < L.length → keyP e0.2.2 < keyP (L.getD j e0).2.2)
theorem InsAt.done {L : List Ent} {e0 : Ent} {out : List Ent} (h : InsAt L e0 L.length true out) : InsOut L e0 out := by
  rcases h with ⟨h1, _⟩ | ⟨_, j, h1, h2, rfl, h3, h4⟩
  · cases h1
  · exact ⟨j, by omega, by rw [List.take_of_length_le (l := L.drop j) (by simp)], h3, fun _ => h4⟩
theorem InsAt.last {L : List Ent} {e0 : Ent} {out : List Ent} (h : InsAt L e0 L.length false out) : InsOut L e0 (out ++ [e0]) := by
  rcases h with ⟨_, rfl, h3⟩ | ⟨h1, _⟩
  · exact ⟨L.length, Nat.le_refl _, by simp, h3, fun h => by omega⟩
  · cases h1
end Go.Proofs.YtljfiefobnncaabGreatDoor

/- outlineref.sorted, walked. -/
namespace Go.Proofs.YtljfiefobnncaabGreatDoor
open Go.RowKit
attribute [local go_sem ↓] Go.wp_at_zero Go.wp_at_succ

theorem two_at (w : World) (g : Nat) (a b : Value) (t : TypeId) (hg : g = w.heap.size) : ∀ j u, [a, b][j]? = some u → (w.alloc (.cells #[a, b] t)).cell? ((⟨g, 0, none⟩ : Addr).add j) = some u := by
  subst hg
  intro j u hj
  rw [add_zero_at, World.cell?_alloc_new]
  simpa using hj

theorem two_oneD {a b : Value} (ha : a.oneCell' = true) (hb : b.oneCell' = true) : ∀ u ∈ [a, b], u.oneCell' = true := by
  intro u hu
  simp at hu
  rcases hu with rfl | rfl <;> assumption

/-- A box of two cells stands; below it all is as it was. -/
def Bx2 (B : Nat) (a b : Value) (w wr : World) : Prop := wr.cell? ⟨B, 0, none⟩ = some a ∧ wr.cell? ⟨B, 1, none⟩ = some b ∧ Below B w wr ∧ B < wr.heap.size
theorem Bx2.onB {B : Nat} {a b : Value} {w wr w2 : World} (h : Bx2 B a b w wr) (hb : Below (B + 1) wr w2) : Bx2 B a b w w2 :=
  ⟨(hb.cell (p := ⟨B, 0, none⟩) (by simp)).trans h.1, (hb.cell (p := ⟨B, 1, none⟩) (by simp)).trans h.2.1, h.2.2.1.trans (hb.mono (by omega)), Nat.lt_of_lt_of_le h.2.2.2 hb.size⟩

set_option maxRecDepth 4000 in
set_option maxHeartbeats 2000000 in
theorem sorted_any (ao : Option Addr) (n cap : Nat) (L : List Ent) (e0 : Ent) (w : World) (hL : n = L.length) (hl : n = 0 ∨ ∃ gl, ao = some ⟨gl, 0, none⟩ ∧ EntsAt gl L w) (h0 : HeadAt e0.1 e0.2.2 w) (hs : 0 ≤ e0.2.2.1 ∧ e0.2.2.1 ≤ 32) (hn : n ≤ 5000) :
    Calls Tryz.prog 48 #[.slice ao n cap, .agg #[e0.1, .int .i64 e0.2.1]] w fun e w' => ∃ v out, e = .returned v ∧ InsOut L e0 out ∧ w'.ownsRow w.heap.size 67 2 v (n + 1) (entV out) ∧ Below w.heap.size w w' := by
  obtain ⟨i0, hi, hz0, hz1, hz2⟩ := info_parts infoShape
  obtain ⟨v0, tw0, x0, y0⟩ := e0
  dsimp only at h0 hs
  have H0 := hid h0
  obtain ⟨g0, n0, cap0, rfl, hn0, hg0, p0, p1⟩ := h0
  have HLL := hid hL
  have HL := hid hl
  obtain ⟨E0, hE0⟩ : ∃ E0 : Ent, E0 = (.slice (some ⟨g0, 0, none⟩) n0 cap0, tw0, x0, y0) := ⟨_, rfl⟩
  rw [← hE0]
  have HE0 := hid hE0
  have k0 : Hid (keyP E0.2.2 = keyP (x0, y0)) := by rw [hE0]; rfl
  have vE : (E0.1 = .slice (some ⟨g0, 0, none⟩) n0 cap0) := by rw [hE0]
  have tE : (E0.2.1 = tw0) := by rw [hE0]
  rw [vE, tE]
  have ent0 : Hid (∀ out : List Ent, entV (out ++ [E0]) = entV out ++ [.slice (some ⟨g0, 0, none⟩) n0 cap0, .int .i64 tw0]) := fun out => by rw [entV_app]; simp [entV, vE, tE]
  clear hL hl hE0 vE tE
  go_enter Tryz.func48, Tryz.ntmps48
  go_wp2
  go_loopw [5, 6, 7] (fun ov bv iv wr => ∃ (i : Nat) (b : Bool) (out : List Ent), i ≤ n ∧ iv = .int .i64 i ∧ bv = .bool b ∧ Hid (InsAt L E0 i b out) ∧ out.length ≤ i + 1 ∧ Hid (out.length = i + if b then 1 else 0) ∧ Hid (wr.ownsRow (w.heap.size + 1) 67 2 ov out.length (entV out)) ∧ Hid (Bx2 w.heap.size (.slice (some ⟨g0, 0, none⟩) n0 cap0) (.int .i64 tw0) w wr)) (fun _ _ i _ => n - (intOf i).toNat)
  case atStart => exact ⟨0, false, [], by omega, rfl, rfl, .inl ⟨rfl, rfl, fun j hj => by omega⟩, by simp, hid (by simp), World.ownsRow_nil _ _ _ _, ⟨by simp, by simp, by go_grown, by simp⟩⟩
  case round =>
    obtain ⟨i, b, out, hin, rfl, rfl, hI, hol, hol2, hown, hX⟩ := hrel
    obtain ⟨b0, b1, -, hz⟩ := hX.out
    by_cases hlt : i < n
    · obtain ⟨gl, rfl, hEA⟩ := HL.out.resolve_left (by omega)
      have HEA := hid hEA
      have hgl := hEA.lt
      clear hEA
      have hiL : i < L.length := by have := HLL.out; omega
      obtain ⟨Ei, hEi⟩ : ∃ Ei, Ei = L.getD i E0 := ⟨_, rfl⟩
      have hmem : Ei ∈ L := by rw [hEi, List.getD_eq_getElem?_getD, List.getElem?_eq_getElem hiL]; exact List.getElem_mem hiL
      obtain ⟨hhd, si0, si1⟩ := HEA.out.heads Ei hmem
      have HEi := hid hEi
      obtain ⟨vi, twi, xi, yi⟩ := Ei
      dsimp only at hhd si0 si1
      obtain ⟨gi, ni, capi, rfl, hni, hgi, q0, q1⟩ := hhd
      have rd : ∀ (wx : World), Below w.heap.size w wx → wx.cell? ⟨g0, 0, none⟩ = some (.int .i64 x0) ∧ wx.cell? ⟨g0, 1, none⟩ = some (.int .i64 y0) ∧ wx.cell? ⟨gi, 0, none⟩ = some (.int .i64 xi) ∧ wx.cell? ⟨gi, 1, none⟩ = some (.int .i64 yi) ∧ wx.cell? ⟨gl, i * 2, none⟩ = some (.slice (some ⟨gi, 0, none⟩) ni capi) ∧ wx.cell? ⟨gl, i * 2 + 1, none⟩ = some (.int .i64 twi) := fun wx hx => by
        have a := HEA.out.cells i E0 hiL
        rw [← HEi.out] at a
        exact ⟨(hx.cell (p := ⟨g0, 0, none⟩) hg0).trans p0, (hx.cell (p := ⟨g0, 1, none⟩) hg0).trans p1, (hx.cell (p := ⟨gi, 0, none⟩) hgi).trans q0, (hx.cell (p := ⟨gi, 1, none⟩) hgi).trans q1, (hx.cell (p := ⟨gl, i * 2, none⟩) hgl).trans a.1, (hx.cell (p := ⟨gl, i * 2 + 1, none⟩) hgl).trans a.2⟩
      have RD := hid rd
      have ki : Hid (keyP (L.getD i E0).2.2 = keyP (xi, yi)) := by rw [← HEi.out]; rfl
      have enti : Hid (∀ out : List Ent, entV (out ++ [L.getD i E0]) = entV out ++ [.slice (some ⟨gi, 0, none⟩) ni capi, .int .i64 twi]) := fun out => by rw [entV_app, ← HEi.out]; simp [entV]
      clear rd hEi p0 p1 q0 q1
      obtain ⟨m0, m1, m2, m3, m4, m5⟩ := RD.out _ hX.out.2.2.1
      have i0' : (0 : Int) ≤ (i : Nat) := by omega
      have i1' : ((i : Nat) : Int) < (n : Nat) := by omega
      have j1' : (0 : Int) < (n0 : Nat) := by omega
      have j2' : (0 : Int) < (ni : Nat) := by omega
      go_wp2_with fail
      go_region_held3 (fun w' => w'.cell? ⟨w.heap.size, 0, none⟩ = some (.slice (some ⟨g0, 0, none⟩) n0 cap0) ∧ w'.cell? ⟨g0, 0, none⟩ = some (.int .i64 x0) ∧ w'.cell? ⟨g0, 1, none⟩ = some (.int .i64 y0) ∧ w'.cell? ⟨gi, 0, none⟩ = some (.int .i64 xi) ∧ w'.cell? ⟨gi, 1, none⟩ = some (.int .i64 yi) ∧ w'.cell? ⟨gl, i * 2, none⟩ = some (.slice (some ⟨gi, 0, none⟩) ni capi))
        (first | exact ⟨b0, m0, m1, m2, m3, m4⟩ | (have hr := RD.out _ X2.out.2.2.1; exact ⟨X2.out.1, hr.1, hr.2.1, hr.2.2.1, hr.2.2.2.1, hr.2.2.2.2.1⟩))
        ((go_at_call 74; refine (ahead_any x0 y0 xi yi hs ⟨si0, si1⟩ _).mono ?_; rintro e w2 ⟨rfl, hb2⟩; have L2 := hid (show Below wr.heap.size wr w2 from Below.trans (b := _) ((Below.refl _ _).drew) hb2); have X2 := hid (hX.out.onB (L2.out.mono (by omega))); clear hb2))
      have O2 := hid (own_below hown.out L2.out)
      have z2 := L2.out.size
      obtain ⟨c0, c1, -, -⟩ := X2.out
      clear b0 b1 m0 m1 m2 m3 m4 m5
      obtain ⟨m0, m1, m2, m3, m4, m5⟩ := RD.out _ X2.out.2.2.1
      cases ha : decide (keyP (x0, y0) < keyP (xi, yi))
      · have hna : ¬ keyP E0.2.2 < keyP (L.getD i E0).2.2 := by rw [k0.out, ki.out]; simpa using ha
        have HNX := hid (hI.out.go hiL (.inr hna))
        clear hna
        cases b
        · go_wp2_with (first
            | (at_builtin; refine wpList_append_own _ rfl _ _ 33 rfl (w.heap.size + 1) 67 i0 (.agg #[.slice none 0 0, .int .i64 0]) 2 32 Tryz.underlying33 hi hz0 hz1 hz2 rfl (by decide) _ _ _ rfl (O2.out.alloc _) ⟨_, 0, none⟩ 1 1 [.slice (some ⟨gi, 0, none⟩) ni capi, .int .i64 twi] rfl rfl (two_at _ _ _ _ _ rfl) (two_oneD rfl rfl) (by unfold maxLen; omega) (by omega) (by simp; omega) ?_))
          intro v3 w3 o3 g3 _
          have Bl3 := hid (show Below (w.heap.size + 1) w2 w3 from ((Below.refl _ _).alloc (by omega) _).grown g3 (by simp; omega) (fun q hq => (O2.out.lt q hq).1))
          have X3 := hid (Bx2.onB X2.out Bl3.out)
          have z3 := Bl3.out.size
          have O3 := hid o3
          clear o3 g3
          go_wp2
          go_roundw
          case rel => exact ⟨i + 1, _, out ++ [L.getD i E0], by omega, by go_num, rfl, HNX, by simp; omega, hid (by simp; have := hol2.out; simp at this; omega), hid (by rw [enti.out, List.length_append]; exact O3.out), X3⟩
          case measure => simp [intOf]; omega
        · go_wp2_with (first
            | (at_builtin; refine wpList_append_own _ rfl _ _ 33 rfl (w.heap.size + 1) 67 i0 (.agg #[.slice none 0 0, .int .i64 0]) 2 32 Tryz.underlying33 hi hz0 hz1 hz2 rfl (by decide) _ _ _ rfl (O2.out.alloc _) ⟨_, 0, none⟩ 1 1 [.slice (some ⟨gi, 0, none⟩) ni capi, .int .i64 twi] rfl rfl (two_at _ _ _ _ _ rfl) (two_oneD rfl rfl) (by unfold maxLen; omega) (by omega) (by simp; omega) ?_))
          intro v3 w3 o3 g3 _
          have Bl3 := hid (show Below (w.heap.size + 1) w2 w3 from ((Below.refl _ _).alloc (by omega) _).grown g3 (by simp; omega) (fun q hq => (O2.out.lt q hq).1))
          have X3 := hid (Bx2.onB X2.out Bl3.out)
          have z3 := Bl3.out.size
          have O3 := hid o3
          clear o3 g3
          go_wp2
          go_roundw
          case rel => exact ⟨i + 1, _, out ++ [L.getD i E0], by omega, by go_num, rfl, HNX, by simp; omega, hid (by simp; have := hol2.out; simp at this; omega), hid (by rw [enti.out, List.length_append]; exact O3.out), X3⟩
          case measure => simp [intOf]; omega
      · have hya : keyP E0.2.2 < keyP (L.getD i E0).2.2 := by rw [k0.out, ki.out]; simpa using ha
        cases b
        · have HNX := hid (hI.out.put hiL hya)
          clear hya
          go_wp2_with (first
            | (at_builtin; refine wpList_append_own _ rfl _ _ 33 rfl (w.heap.size + 1) 67 i0 (.agg #[.slice none 0 0, .int .i64 0]) 2 32 Tryz.underlying33 hi hz0 hz1 hz2 rfl (by decide) _ _ _ rfl (O2.out.alloc _) ⟨_, 0, none⟩ 1 1 [.slice (some ⟨g0, 0, none⟩) n0 cap0, .int .i64 tw0] rfl rfl (two_at _ _ _ _ _ rfl) (two_oneD rfl rfl) (by unfold maxLen; omega) (by omega) (by simp; omega) ?_))
          intro v3 w3 o3 g3 _
          have Bl3 := hid (show Below (w.heap.size + 1) w2 w3 from ((Below.refl _ _).alloc (by omega) _).grown g3 (by simp; omega) (fun q hq => (O2.out.lt q hq).1))
          have X3 := hid (Bx2.onB X2.out Bl3.out)
          have z3 := Bl3.out.size
          have O3 := hid o3
          clear o3 g3
          obtain ⟨d0, d1, -, -⟩ := X3.out
          clear c0 c1 m0 m1 m2 m3 m4 m5
          obtain ⟨m0, m1, m2, m3, m4, m5⟩ := RD.out _ X3.out.2.2.1
          go_wp2_with (first
            | (at_builtin; refine wpList_append_own _ rfl _ _ 33 rfl (w.heap.size + 1) 67 i0 (.agg #[.slice none 0 0, .int .i64 0]) 2 32 Tryz.underlying33 hi hz0 hz1 hz2 rfl (by decide) _ _ _ rfl (O3.out.alloc _) ⟨_, 0, none⟩ 1 1 [.slice (some ⟨gi, 0, none⟩) ni capi, .int .i64 twi] rfl rfl (two_at _ _ _ _ _ rfl) (two_oneD rfl rfl) (by unfold maxLen; omega) (by omega) (by simp; omega) ?_))
          intro v4 w4 o4 g4 _
          have Bl4 := hid (show Below (w.heap.size + 1) w3 w4 from ((Below.refl _ _).alloc (by omega) _).grown g4 (by simp; omega) (fun q hq => (O3.out.lt q hq).1))
          have X4 := hid (Bx2.onB X3.out Bl4.out)
          have z4 := Bl4.out.size
          have O4 := hid o4
          clear o4 g4
          go_wp2
          go_roundw
          case rel => exact ⟨i + 1, true, out ++ [E0] ++ [L.getD i E0], by omega, by go_num, rfl, HNX, by simp; have := hol2.out; simp at this; omega, hid (by simp; have := hol2.out; simp at this; omega), hid (by rw [enti.out, ent0.out, List.length_append, List.length_append, List.append_assoc]; exact O4.out), X4⟩
          case measure => simp [intOf]; omega
        · have HNX := hid (hI.out.go hiL (.inl rfl))
          clear hya
          go_wp2_with (first
            | (at_builtin; refine wpList_append_own _ rfl _ _ 33 rfl (w.heap.size + 1) 67 i0 (.agg #[.slice none 0 0, .int .i64 0]) 2 32 Tryz.underlying33 hi hz0 hz1 hz2 rfl (by decide) _ _ _ rfl (O2.out.alloc _) ⟨_, 0, none⟩ 1 1 [.slice (some ⟨gi, 0, none⟩) ni capi, .int .i64 twi] rfl rfl (two_at _ _ _ _ _ rfl) (two_oneD rfl rfl) (by unfold maxLen; omega) (by omega) (by simp; omega) ?_))
          intro v3 w3 o3 g3 _
          have Bl3 := hid (show Below (w.heap.size + 1) w2 w3 from ((Below.refl _ _).alloc (by omega) _).grown g3 (by simp; omega) (fun q hq => (O2.out.lt q hq).1))
          have X3 := hid (Bx2.onB X2.out Bl3.out)
          have z3 := Bl3.out.size
          have O3 := hid o3
          clear o3 g3
          go_wp2
          go_roundw
          case rel => exact ⟨i + 1, _, out ++ [L.getD i E0], by omega, by go_num, rfl, HNX, by simp; omega, hid (by simp; have := hol2.out; simp at this; omega), hid (by rw [enti.out, List.length_append]; exact O3.out), X3⟩
          case measure => simp [intOf]; omega
    · have e1 : i = n := by omega
      have hIL : InsAt L E0 L.length b out := by rw [← HLL.out, ← e1]; exact hI.out
      have HIL := hid hIL
      clear hIL
      cases b
      · have HO := hid HIL.out.last
        go_wp2_with (first
          | (at_builtin; refine wpList_append_own _ rfl _ _ 33 rfl (w.heap.size + 1) 67 i0 (.agg #[.slice none 0 0, .int .i64 0]) 2 32 Tryz.underlying33 hi hz0 hz1 hz2 rfl (by decide) _ _ _ rfl (hown.out.alloc _) ⟨_, 0, none⟩ 1 1 [.slice (some ⟨g0, 0, none⟩) n0 cap0, .int .i64 tw0] rfl rfl (two_at _ _ _ _ _ rfl) (two_oneD rfl rfl) (by unfold maxLen; omega) (by omega) (by simp; omega) ?_))
        intro v3 w3 o3 g3 _
        have Bl3 := hid (show Below (w.heap.size + 1) wr w3 from ((Below.refl _ _).alloc (by omega) _).grown g3 (by simp; omega) (fun q hq => (hown.out.lt q hq).1))
        have X3 := hid (Bx2.onB hX.out Bl3.out)
        have z3 := Bl3.out.size
        have O3 := hid o3
        clear o3 g3
        go_wp2
        go_ret
        refine ⟨_, out ++ [E0], rfl, HO.out, ?_, X3.out.2.2.1⟩
        have := O3.out
        rw [← ent0.out, show out.length = n by have := hol2.out; simp at this; omega] at this
        exact this.mono (by omega)
      · have HO := hid HIL.out.done
        go_wp2
        go_ret
        refine ⟨_, rfl, out, HO.out, ?_, hX.out.2.2.1⟩
        have := hown.out
        rw [show out.length = n + 1 by have := hol2.out; simp at this; omega] at this
        exact this.mono (by omega)
end Go.Proofs.YtljfiefobnncaabGreatDoor

/- outlineref.Cycles: what holds in its loops. -/
namespace Go.Proofs.YtljfiefobnncaabGreatDoor
open Go.RowKit

/-! The marks of the sides by their places. -/
section
variable {f : Qm.Sd → Qm.Sd} {P : Qm.Sd → Prop}

theorem ptsOf_turn (f : Qm.Sd → Qm.Sd) (s : Qm.Sd) (n k : Nat) (hk : k < n) (he : Qm.it f n s = s) : (Qm.ptsOf f (s, n)).drop k ++ (Qm.ptsOf f (s, n)).take k = Qm.ptsOf f (Qm.it f k s, n) := by
  apply List.ext_getElem?
  intro j
  simp only [Qm.ptsOf, List.getElem?_append, List.length_drop, List.length_map, List.length_range, List.getElem?_drop, List.getElem?_take, List.getElem?_map]
  by_cases h1 : j < n - k
  · rw [if_pos h1, List.getElem?_range (show k + j < n by omega), List.getElem?_range (show j < n by omega)]
    simp only [Option.map_some]
    rw [← Qm.it_add, Nat.add_comm]
  · rw [if_neg h1]
    by_cases h2 : j < n
    · rw [if_pos (by omega), List.getElem?_range (show j - (n - k) < n by omega), List.getElem?_range h2]
      simp only [Option.map_some]
      rw [← Qm.it_add, show j + k = (j - (n - k)) + n from by omega, Qm.it_add, he]
    · rw [if_neg (by omega), List.getElem?_eq_none (by simp; omega)]; simp

def RepI (f : Qm.Sd → Qm.Sd) (SL : List Qm.Sd) (G : Nat → Bool) (R : List (Qm.Sd × Nat)) (s : Qm.Sd) (m : Nat) : Prop := ∀ j, j < SL.length → (G j = true ↔ Qm.Tk f R (SL.getD j (0, 0, 0)) ∨ ∃ i, i < m ∧ SL.getD j (0, 0, 0) = Qm.it f i s)

theorem RepI.succ {SL : List Qm.Sd} {G : Nat → Bool} {R : List (Qm.Sd × Nat)} {s : Qm.Sd} {m k : Nat} (h : RepI f SL G R s m) (hk : k < SL.length) (e : SL.getD k (0, 0, 0) = Qm.it f m s) (hnd : ∀ i j, i < SL.length → j < SL.length → SL.getD i (0, 0, 0) = SL.getD j (0, 0, 0) → i = j) : RepI f SL (Qm.mark G k) R s (m + 1) := fun j hj => by
  unfold Qm.mark
  rw [Bool.or_eq_true, h j hj, beq_iff_eq]
  constructor
  · rintro ((h | ⟨i, hi, e2⟩) | rfl)
    · exact .inl h
    · exact .inr ⟨i, by omega, e2⟩
    · exact .inr ⟨m, by omega, e⟩
  · rintro (h | ⟨i, hi, e2⟩)
    · exact .inl (.inl h)
    · rcases Nat.lt_or_ge i m with h1 | h1
      · exact .inl (.inr ⟨i, h1, e2⟩)
      · obtain rfl : i = m := by omega
        exact .inr (hnd j k hj hk (e2.trans e.symm))
theorem RepI.free {SL : List Qm.Sd} {G : Nat → Bool} {R : List (Qm.Sd × Nat)} {s : Qm.Sd} {m k : Nat} (h : RepI f SL G R s m) (hk : k < SL.length) (e : SL.getD k (0, 0, 0) = Qm.it f m s) (hG : G k = false) : ¬ Qm.Tk f R (Qm.it f m s) ∧ ∀ i, i < m → Qm.it f i s ≠ Qm.it f m s := by
  have : ¬ (Qm.Tk f R (SL.getD k (0, 0, 0)) ∨ ∃ i, i < m ∧ SL.getD k (0, 0, 0) = Qm.it f i s) := fun hh => absurd ((h k hk).2 hh) (by rw [hG]; simp)
  rw [e] at this
  exact ⟨fun hh => this (.inl hh), fun i hi e2 => this (.inr ⟨i, hi, e2.symm⟩)⟩
end

def untG (gg n : Nat) (w : World) : Nat := Qm.cntF (fun j => match w.cell? ⟨gg, j, none⟩ with | some (.bool b) => b | _ => true) n
theorem untG_of {gg n : Nat} {G : Nat → Bool} {w : World} (h : GoneAt gg n G w) : untG gg n w = Qm.cntF G n := cntF_congr _ _ _ fun i hi => by rw [(h.2 i hi).1]

/-- The answer so far, to be read: the row of shapes, and each shape's points; all of it in blocks behind gg. -/
structure Seen (f : Qm.Sd → Qm.Sd) (gg : Nat) (vl : Value) (L : List (Value × (Qm.Sd × Nat))) (w : World) : Prop where
  row : ∃ ao cap, vl = .slice ao L.length cap ∧ (L.length = 0 ∨ ∃ gl, ao = some ⟨gl, 0, none⟩ ∧ gg < gl ∧ gl < w.heap.size ∧ ∀ j u, (shpV f L)[j]? = some u → w.cell? ⟨gl, j, none⟩ = some u)
  pts : ∀ p ∈ L, ∃ g cap, p.1 = .slice (some ⟨g, 0, none⟩) p.2.2 cap ∧ p.2.2 ≤ cap ∧ 0 < p.2.2 ∧ gg < g ∧ PtsAt g (Qm.ptsOf f p.2) w
theorem Seen.nil (f : Qm.Sd → Qm.Sd) (gg : Nat) (w : World) : Seen f gg (.slice none 0 0) [] w := ⟨⟨none, 0, rfl, .inl rfl⟩, fun p hp => by simp at hp⟩
theorem Seen.on {f : Qm.Sd → Qm.Sd} {gg : Nat} {vl : Value} {L : List (Value × (Qm.Sd × Nat))} {w w' : World} (h : Seen f gg vl L w) (hb : w.grownBy w' (some gg)) : Seen f gg vl L w' := by
  have C : ∀ g j, gg < g → g < w.heap.size → w'.cell? ⟨g, j, none⟩ = w.cell? ⟨g, j, none⟩ := fun g j h1 h2 => World.cell?_of_block (a := ⟨g, j, none⟩) (hb.block g h2 (by simp; omega))
  refine ⟨?_, fun p hp => ?_⟩
  · obtain ⟨ao, cap, e, h1⟩ := h.row
    refine ⟨ao, cap, e, h1.imp id ?_⟩
    rintro ⟨gl, e2, h2, h3, h4⟩
    exact ⟨gl, e2, h2, Nat.lt_of_lt_of_le h3 hb.size, fun j u hu => (C _ _ h2 h3).trans (h4 j u hu)⟩
  · obtain ⟨g, cap, e, h1, h2, h3, h4⟩ := h.pts p hp
    exact ⟨g, cap, e, h1, h2, h3, Nat.lt_of_lt_of_le h4.1 hb.size, fun j hj => ⟨(C _ _ h3 h4.1).trans (h4.2 j hj).1, (C _ _ h3 h4.1).trans (h4.2 j hj).2⟩⟩

def entOf (f : Qm.Sd → Qm.Sd) (p : Value × (Qm.Sd × Nat)) : Ent := (p.1, Qm.twiceOf (Qm.ptsOf f p.2), Qm.fromP p.2.1)
theorem entV_map (f : Qm.Sd → Qm.Sd) (L : List (Value × (Qm.Sd × Nat))) : entV (L.map (entOf f)) = shpV f L := by
  induction L with
  | nil => rfl
  | cons p l ih =>
    have a : entV ((p :: l).map (entOf f)) = (entOf f p).1 :: .int .i64 (entOf f p).2.1 :: entV (l.map (entOf f)) := by simp [entV]
    have b : shpV f (p :: l) = p.1 :: .int .i64 (Qm.twiceOf (Qm.ptsOf f p.2)) :: shpV f l := by simp [shpV]
    rw [a, b, ih]; rfl
theorem keyP_from (s : Qm.Sd) : keyP (Qm.fromP s) = Qm.key s := rfl
theorem ptsOf_getD (f : Qm.Sd → Qm.Sd) (c : Qm.Sd × Nat) (j : Nat) (h : j < c.2) : (Qm.ptsOf f c).getD j (0, 0) = Qm.fromP (Qm.it f j c.1) := by
  simp [Qm.ptsOf, List.getD_eq_getElem?_getD, h]

/-- What holds behind i sides. -/
structure RC (W H : Nat) (s : ByteArray) (pol : Nat) (draws : ByteArray) (spk : Int) (gg gl : Nat) (SL : List Qm.Sd) (w : World) (i : Nat) (L : List (Value × (Qm.Sd × Nat))) (G : Nat → Bool) (vo : Value) (wr : World) : Prop where
  canon : ∀ p ∈ L, Qm.Canon (fB W H s pol draws) (bB W H s) Qm.key p.2
  sorted : (L.map (·.2)).Pairwise fun a b => Qm.key a.1 < Qm.key b.1
  rep : RepI (fB W H s pol draws) SL G (L.map (·.2)) (0, 0, 0) 0
  past : ∀ j, j < i → G j = true
  gone : GoneAt gg SL.length G wr
  sds : 0 < SL.length → SdsAt gl SL wr
  box : Bb w.heap.size W H s pol draws spk w wr
  lt : w.heap.size + 1 < gg ∧ gl < gg
  seen : Seen (fB W H s pol draws) gg vo L wr
  few : L.length ≤ i

section
variable {W H : Nat} {s : ByteArray} {pol : Nat} {draws : ByteArray} {spk : Int} {gg gl : Nat} {SL : List Qm.Sd} {w : World} {i : Nat} {L : List (Value × (Qm.Sd × Nat))} {G : Nat → Bool} {vo : Value} {wr : World}

theorem RC.cyc (h : RC W H s pol draws spk gg gl SL w i L G vo wr) : ∀ c ∈ L.map (·.2), Qm.Cyc (fB W H s pol draws) (bB W H s) c.1 c.2 := by
  intro c hc
  obtain ⟨p, hp, rfl⟩ := List.mem_map.1 hc
  exact (h.canon p hp).1

theorem Bb.gb {B : Nat} {w2 : World} (h : Bb B W H s pol draws spk w wr) (hb : wr.grownBy w2 (some gg)) (hg : B + 1 < gg) : Bb B W H s pol draws spk w w2 := by
  have hz := h.2.2.2.2.2.2.2
  have C : ∀ k j, k < B + 2 → w2.cell? ⟨k, j, none⟩ = wr.cell? ⟨k, j, none⟩ := fun k j h1 => World.cell?_of_block (a := ⟨k, j, none⟩) (hb.block k (by omega) (by simp; omega))
  exact ⟨(C B 0 (by omega)).trans h.1, (C B 1 (by omega)).trans h.2.1, (C B 2 (by omega)).trans h.2.2.1, (C (B + 1) 0 (by omega)).trans h.2.2.2.1, (C (B + 1) 1 (by omega)).trans h.2.2.2.2.1, (C (B + 1) 2 (by omega)).trans h.2.2.2.2.2.1, h.2.2.2.2.2.2.1.trans (gb_below_of hb (by omega) (by omega)), Nat.lt_of_lt_of_le hz hb.size⟩
theorem SdsAt.gb {l : List Qm.Sd} {g : Nat} {w2 : World} (h : SdsAt g l wr) (hb : wr.grownBy w2 (some gg)) (hg : g < gg) : SdsAt g l w2 := by
  have C : ∀ j, w2.cell? ⟨g, j, none⟩ = wr.cell? ⟨g, j, none⟩ := fun j => World.cell?_of_block (a := ⟨g, j, none⟩) (hb.block g h.1 (by simp; omega))
  exact ⟨Nat.lt_of_lt_of_le h.1 hb.size, fun j hj => by rw [C, C, C, C]; exact h.2 j hj⟩

/-- Nothing was walked from side i: it was gone. -/
theorem RC.none (h : RC W H s pol draws spk gg gl SL w i L G vo wr) (hG : G i = true) : RC W H s pol draws spk gg gl SL w (i + 1) L G vo wr :=
  { h with past := fun j hj => by
             rcases Nat.lt_or_ge j i with h1 | h1
             · exact h.past j h1
             · obtain rfl : j = i := by omega
               exact hG
           few := by have := h.few; omega }

theorem RC.res (h : RC W H s pol draws spk gg gl SL w SL.length L G vo wr) (hall : ∀ t, Qm.isS (Pm.blackB W H s.data.toList) t = true → ∃ j, j < SL.length ∧ SL.getD j (0, 0, 0) = t) : Qm.Res (fB W H s pol draws) (bB W H s) Qm.key (L.map (·.2)) := by
  refine ⟨fun c hc => ?_, h.sorted, fun t ht => ?_⟩
  · obtain ⟨p, hp, rfl⟩ := List.mem_map.1 hc
    exact h.canon p hp
  · obtain ⟨j, hj, rfl⟩ := hall t ht
    rcases (h.rep j hj).1 (h.past j hj) with h1 | ⟨_, h1, _⟩
    · exact h1
    · omega
end
end Go.Proofs.YtljfiefobnncaabGreatDoor

/- outlineref.Cycles: what holds in its inner loop, and behind it. -/
namespace Go.Proofs.YtljfiefobnncaabGreatDoor
open Go.RowKit

/-- What holds behind m steps from s0. -/
structure RI (W H : Nat) (s : ByteArray) (pol : Nat) (draws : ByteArray) (gg : Nat) (SL : List Qm.Sd) (R : List (Qm.Sd × Nat)) (s0 : Qm.Sd) (wi : World) (m k : Nat) (G : Nat → Bool) (v : Value) (wr : World) : Prop where
  own : wr.ownsRow wi.heap.size 65 2 v m (Qm.ptsV (Qm.ptsOf (fB W H s pol draws) (s0, m)))
  grown : wi.grownBy wr (some gg)
  gone : GoneAt gg SL.length G wr
  lt : k < SL.length
  here : SL.getD k (0, 0, 0) = Qm.it (fB W H s pol draws) m s0
  rep : RepI (fB W H s pol draws) SL G R s0 m
  run : Qm.Run (fB W H s pol draws) s0 m
  free : 0 < m → ¬ Qm.Tk (fB W H s pol draws) R s0
  few : m + Qm.cntF G SL.length ≤ SL.length

section
variable {W H : Nat} {s : ByteArray} {pol : Nat} {draws : ByteArray} {spk : Int} {gg gl : Nat} {SL : List Qm.Sd} {w wi : World} {i m k : Nat} {L : List (Value × (Qm.Sd × Nat))} {R : List (Qm.Sd × Nat)} {s0 : Qm.Sd} {G G' : Nat → Bool} {v vo : Value} {wr : World}

theorem RI.start (h : RC W H s pol draws spk gg gl SL w i L G vo wr) (hi : i < SL.length) : RI W H s pol draws gg SL (L.map (·.2)) (SL.getD i (0, 0, 0)) wr 0 i G (.slice none 0 0) wr where
  own := World.ownsRow_nil _ _ _ _
  grown := grown_of_below (Below.refl _ _) _
  gone := h.gone
  lt := hi
  here := rfl
  rep j hj := by
    rw [h.rep j hj]
    exact ⟨fun h => h.imp id (fun ⟨a, b, _⟩ => by omega), fun h => h.imp id (fun ⟨a, b, _⟩ => by omega)⟩
  run := Qm.Run.zero _
  free h := absurd h (by omega)
  few := by have := Qm.cntF_le G SL.length; omega

theorem RI.succ (h : RI W H s pol draws gg SL R s0 wi m k G v wr) {w3 w4 : World} {v' : Value} {o : Obj} {kf : Nat} (hgg : gg < wi.heap.size) (hG : G k = false) (hnd : ∀ i j, i < SL.length → j < SL.length → SL.getD i (0, 0, 0) = SL.getD j (0, 0, 0) → i = j)
    (o3 : w3.ownsRow wi.heap.size 65 2 v' (m + 1) (Qm.ptsV (Qm.ptsOf (fB W H s pol draws) (s0, m)) ++ Qm.ptV (Qm.fromP (SL.getD k (0, 0, 0))))) (g3 : ((wr.setCell ⟨gg, k, none⟩ (.bool true)).alloc o).grownBy w3 v.ownBlock) (b4 : Below w3.heap.size w3 w4)
    (hkf : kf < SL.length) (ef : SL.getD kf (0, 0, 0) = fB W H s pol draws (SL.getD k (0, 0, 0))) : RI W H s pol draws gg SL R s0 wi (m + 1) kf (Qm.mark G k) v' w4 := by
  have z := h.grown.size
  have hfree := h.rep.free h.lt h.here hG
  have g1 : wr.grownBy (wr.setCell ⟨gg, k, none⟩ (.bool true)) (some gg) := set_grown (Below.refl _ _) ⟨gg, k, none⟩
  have b13 : Below wi.heap.size (wr.setCell ⟨gg, k, none⟩ (.bool true)) w3 := ((Below.refl _ _).alloc (by simpa using z) _).grown g3 (by simp; omega) (fun q hq => (h.own.lt q hq).1)
  have z3 := b13.size
  simp at z3
  have b14 : Below wi.heap.size (wr.setCell ⟨gg, k, none⟩ (.bool true)) w4 := b13.trans (b4.mono (by omega))
  refine ⟨?_, gb_below (gb_trans h.grown g1) b14 (Nat.le_refl _), (h.gone.set k).on b14 hgg, hkf, ?_, h.rep.succ h.lt h.here hnd, h.run.succ hfree.2, fun _ => ?_, ?_⟩
  · rw [Qm.ptsOf_succ, Qm.ptsV_snoc, ← h.here]
    exact own_below o3 b4
  · rw [ef, h.here]; rfl
  · rcases Nat.eq_zero_or_pos m with h0 | h0
    · subst h0; exact hfree.1
    · exact h.free h0
  · have := Qm.cntF_mark G k hG SL.length h.lt
    have := h.few
    omega

theorem RI.done (hw : W ≤ 32) (hh : H ≤ 32) (hR : ∀ c ∈ R, Qm.Cyc (fB W H s pol draws) (bB W H s) c.1 c.2) (hs : bB W H s s0) (h : RI W H s pol draws gg SL R s0 wi m k G v wr) (hm : 0 < m) (hG : G k = true) : Qm.Cyc (fB W H s pol draws) (bB W H s) s0 m := by
  have st := Qm.step (Qm.pic_of W H s.data.toList hw hh) (Qm.jnB W H s.data.toList pol draws.data.toList)
  refine h.run.done st hR hs (h.free hm) hm ?_
  rcases (h.rep k h.lt).1 hG with h1 | ⟨j, h1, h2⟩
  · left; rw [← h.here]; exact h1
  · right; exact ⟨j, h1, by rw [← h.here]; exact h2⟩

theorem mem_drop_getD {α : Type} {L : List α} {j : Nat} {x d : α} (h : x ∈ L.drop j) : ∃ m, j ≤ m ∧ m < L.length ∧ L.getD m d = x := by
  obtain ⟨m, hm, rfl⟩ := List.mem_iff_getElem.1 h
  simp only [List.length_drop] at hm
  exact ⟨j + m, by omega, by omega, by rw [List.getD_eq_getElem?_getD, List.getElem?_eq_getElem (by omega), List.getElem_drop]; rfl⟩
theorem getD_map {α β : Type} (g : α → β) (L : List α) (m : Nat) (d : α) : (L.map g).getD m (g d) = g (L.getD m d) := by
  simp only [List.getD_eq_getElem?_getD, List.getElem?_map]
  cases L[m]? <;> rfl

/-- A cycle more. -/
theorem RC.found (hw : W ≤ 32) (hh : H ≤ 32) (h : RC W H s pol draws spk gg gl SL w i L G vo wi) (hi : i < SL.length) (hs : bB W H s (SL.getD i (0, 0, 0))) (hr : RI W H s pol draws gg SL (L.map (·.2)) (SL.getD i (0, 0, 0)) wi m k G' v wr) (hm : 0 < m) (hG : G' k = true)
    {kk : Nat} {vq vl' : Value} {w4 : World} {out : List Ent} (hkk : kk < m) (hmin : ∀ j, j < m → keyP ((Qm.ptsOf (fB W H s pol draws) (SL.getD i (0, 0, 0), m)).getD kk (0, 0)) ≤ keyP ((Qm.ptsOf (fB W H s pol draws) (SL.getD i (0, 0, 0), m)).getD j (0, 0)))
    (oq : w4.ownsRow wr.heap.size 65 2 vq m (Qm.ptsV (Qm.ptsOf (fB W H s pol draws) (Qm.it (fB W H s pol draws) kk (SL.getD i (0, 0, 0)), m)))) (b4 : Below wr.heap.size wr w4)
    (hio : InsOut (L.map (entOf (fB W H s pol draws))) (entOf (fB W H s pol draws) (vq, Qm.it (fB W H s pol draws) kk (SL.getD i (0, 0, 0)), m)) out) (ol : w4.ownsRow wr.heap.size 67 2 vl' (L.length + 1) (entV out)) :
    ∃ L', RC W H s pol draws spk gg gl SL w (i + 1) L' G' vl' w4 := by
  have st := Qm.step (Qm.pic_of W H s.data.toList hw hh) (Qm.jnB W H s.data.toList pol draws.data.toList)
  have cyc := hr.done hw hh h.cyc hs hm hG
  have gz := h.gone.1
  have zr := hr.grown.size
  have can : Qm.Canon (fB W H s pol draws) (bB W H s) Qm.key (Qm.it (fB W H s pol draws) kk (SL.getD i (0, 0, 0)), m) := by
    refine cyc.canon_turn st hkk fun j hj => ?_
    have := hmin j hj
    rw [ptsOf_getD _ _ _ hkk, ptsOf_getD _ _ _ hj] at this
    exact this
  have nt : ¬ Qm.Tk (fB W H s pol draws) (L.map (·.2)) (Qm.it (fB W H s pol draws) kk (SL.getD i (0, 0, 0))) := fun hh => hr.free hm (hh.backs st h.cyc hs kk)
  obtain ⟨q, hq⟩ : ∃ q : Value × (Qm.Sd × Nat), q = (vq, Qm.it (fB W H s pol draws) kk (SL.getD i (0, 0, 0)), m) := ⟨_, rfl⟩
  rw [← hq] at hio
  have q2 : q.2 = (Qm.it (fB W H s pol draws) kk (SL.getD i (0, 0, 0)), m) := by rw [hq]
  rw [← q2] at can
  have q3 : q.2.1 = Qm.it (fB W H s pol draws) kk (SL.getD i (0, 0, 0)) := by rw [hq]
  rw [← q3] at nt
  obtain ⟨j, hj, rfl, hlo, hhi⟩ := hio
  rw [List.length_map] at hj hhi
  have dist : ∀ p ∈ L, Qm.key p.2.1 ≠ Qm.key q.2.1 := fun p hp e => by
    have cp := h.canon p hp
    have f1 := cp.1.first st (i := 0) cp.1.2.1 (fun a ha => cp.least a)
    have f2 := can.1.first st (i := 0) can.1.2.1 (fun a ha => can.least a)
    have := st.one p.2.1 q.2.1 cp.1.1 can.1.1 e f1.1 f2.1
    exact nt (this ▸ ⟨p.2, List.mem_map_of_mem hp, 0, cp.1.2.1, rfl⟩)
  have lo : ∀ p ∈ L.take j, Qm.key p.2.1 < Qm.key q.2.1 := fun p hp => by
    obtain ⟨a, ha, ha2, e⟩ := mem_take_getD (d := q) hp
    have := hlo a ha
    rw [getD_map, e] at this
    have d := dist p (List.mem_of_mem_take hp)
    simp only [entOf, keyP_from] at this
    omega
  have sortL : L.Pairwise fun a b => Qm.key a.2.1 < Qm.key b.2.1 := by have := h.sorted; rw [List.pairwise_map] at this; exact this
  have hi2 : ∀ p ∈ L.drop j, Qm.key q.2.1 < Qm.key p.2.1 := fun p hp => by
    obtain ⟨a, ha, ha2, e⟩ := mem_drop_getD (d := q) hp
    have h1 := hhi (by omega)
    rw [getD_map] at h1
    simp only [entOf, keyP_from] at h1
    rcases Nat.eq_or_lt_of_le ha with e2 | e2
    · rw [e2, e] at h1; exact h1
    · have := List.pairwise_iff_getElem.1 sortL j a (by omega) ha2 e2
      have e3 : L.getD j q = L[j]'(by omega) := by rw [List.getD_eq_getElem?_getD, List.getElem?_eq_getElem (by omega)]; rfl
      have e4 : p = L[a] := by rw [← e, List.getD_eq_getElem?_getD, List.getElem?_eq_getElem ha2]; rfl
      rw [e3] at h1
      rw [e4]; omega
  have eo : (L.map (entOf (fB W H s pol draws))).take j ++ entOf (fB W H s pol draws) q :: (L.map (entOf (fB W H s pol draws))).drop j = (L.take j ++ q :: L.drop j).map (entOf (fB W H s pol draws)) := by simp [List.map_take, List.map_drop]
  rw [eo, entV_map] at ol
  have g4 : wi.grownBy w4 (some gg) := gb_trans hr.grown (grown_of_below b4 _)
  have sl := (h.seen.on g4)
  refine ⟨L.take j ++ q :: L.drop j, ⟨?_, ?_, ?_, ?_, hr.gone.on b4 hr.gone.1, fun h0 => (h.sds h0).gb g4 h.lt.2, h.box.gb g4 h.lt.1, h.lt, ⟨?_, ?_⟩, ?_⟩⟩
  · intro p hp
    rcases List.mem_append.1 hp with hp | hp
    · exact h.canon p (List.mem_of_mem_take hp)
    · rcases List.mem_cons.1 hp with rfl | hp
      · exact can
      · exact h.canon p (List.mem_of_mem_drop hp)
  · refine List.pairwise_map.2 (List.pairwise_append.2 ⟨sortL.sublist (List.take_sublist _ _), List.pairwise_cons.2 ⟨hi2, sortL.sublist (List.drop_sublist _ _)⟩, fun a ha b hb => ?_⟩)
    rcases List.mem_cons.1 hb with rfl | hb
    · exact lo a ha
    · have := lo a ha; have := hi2 b hb; omega
  · intro a ha
    rw [hr.rep a ha]
    constructor
    · rintro (⟨c, hc, x, hx, e⟩ | ⟨x, hx, e⟩)
      · obtain ⟨p, hp, rfl⟩ := List.mem_map.1 hc
        refine .inl ⟨p.2, List.mem_map_of_mem ?_, x, hx, e⟩
        rw [← List.take_append_drop j L] at hp
        rcases List.mem_append.1 hp with hp | hp
        · exact List.mem_append_left _ hp
        · exact List.mem_append_right _ (List.mem_cons_of_mem _ hp)
      · refine .inl ⟨q.2, List.mem_map_of_mem (List.mem_append_right _ List.mem_cons_self), (x + (m - kk)) % m, ?_, ?_⟩
        · rw [q2]; exact Nat.mod_lt _ hm
        · have ct := can.1
          rw [e, q2] 
          rw [q2] at ct
          show _ = Qm.it _ _ (Qm.it _ kk _)
          have := ct.mod (x + (m - kk))
          dsimp only at this
          rw [← this, ← Qm.it_add, show x + (m - kk) + kk = x + m from by omega, Qm.it_add, cyc.2.2.1]
    · rintro (⟨c, hc, x, hx, e⟩ | ⟨_, hx, _⟩)
      · obtain ⟨p, hp, rfl⟩ := List.mem_map.1 hc
        rcases List.mem_append.1 hp with hp | hp
        · exact .inl ⟨p.2, List.mem_map_of_mem (List.mem_of_mem_take hp), x, hx, e⟩
        · rcases List.mem_cons.1 hp with rfl | hp
          · refine .inr ⟨(x + kk) % m, Nat.mod_lt _ hm, ?_⟩
            rw [e, q3, ← Qm.it_add, cyc.mod]
          · exact .inl ⟨p.2, List.mem_map_of_mem (List.mem_of_mem_drop hp), x, hx, e⟩
      · omega
  · intro a ha
    rcases Nat.lt_or_ge a i with h1 | h1
    · have h2 := (h.rep a (by omega)).1 (h.past a h1)
      exact (hr.rep a (by omega)).2 (.inl (h2.elim id (fun ⟨_, h3, _⟩ => by omega)))
    · obtain rfl : a = i := by omega
      exact (hr.rep a hi).2 (.inr ⟨0, hm, rfl⟩)
  · have len : (L.take j ++ q :: L.drop j).length = L.length + 1 := by simp; omega
    rcases ol.2 with ⟨_, h0⟩ | ⟨g, cap, cur, rfl, hb, hg, _⟩
    · omega
    · refine ⟨_, cap, by rw [len], .inr ⟨g, rfl, by omega, (Array.getElem?_eq_some_iff.1 hg).1, fun a u hu => ?_⟩⟩
      have := ol.cells (g := g) rfl a u hu
      rwa [add_zero_at] at this
  · intro p hp
    have old : ∀ p ∈ L, ∃ g cap, p.1 = .slice (some ⟨g, 0, Option.none⟩) p.2.2 cap ∧ p.2.2 ≤ cap ∧ 0 < p.2.2 ∧ gg < g ∧ PtsAt g (Qm.ptsOf (fB W H s pol draws) p.2) w4 := sl.pts
    rcases List.mem_append.1 hp with hp | hp
    · exact old p (List.mem_of_mem_take hp)
    · rcases List.mem_cons.1 hp with rfl | hp
      · obtain ⟨g, cap, e, hb, hp2, _⟩ := own_at oq hm
        obtain ⟨ao, cap', e', hc⟩ := own_cap oq
        rw [hq]
        refine ⟨g, cap, e, ?_, hm, by omega, hp2⟩
        rw [e] at e'; injection e' with _ _ e3; show m ≤ cap; omega
      · exact old p (List.mem_of_mem_drop hp)
  · have := h.few; simp; omega
end
end Go.Proofs.YtljfiefobnncaabGreatDoor
