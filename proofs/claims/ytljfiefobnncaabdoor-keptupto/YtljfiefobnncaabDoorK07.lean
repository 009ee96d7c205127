import Derived.Test.YtljfiefobnncaabDoorK06
import Derived.Great.Walk
import Derived.OwnWalk

/- Find of package cycles, walked. -/
namespace Go.Proofs.YtljfiefobnncaabDoor
open Go.RowKit

set_option maxRecDepth 4000 in
set_option maxHeartbeats 1000000 in
theorem find_no (W H : Int) (s : ByteArray) (pol : Int) (draws : ByteArray) (spk : Int) (w : World) (hm : mayB W H s.data.toList pol spk = false) :
    Calls Tryd.prog 18 #[.agg #[.int .i64 W, .int .i64 H, .string s], .agg #[.int .i64 pol, .string draws, .int .i64 spk]] w fun e w' => e = .returned (.tuple #[.slice none 0 0, .int .i64 4]) ∧ Below w.heap.size w w' := by
  go_enter Tryd.func18, Tryd.ntmps18
  go_wp2_with fail
  refine (mayBe_any W H s pol draws spk _).mono ?_
  rintro e w1 ⟨rfl, hb⟩
  rw [hm]
  have HB := hid hb
  clear hb
  go_wp2
  go_ret2
  exact ⟨rfl, Below.trans (b := _) (by go_grown) (HB.out.mono (by simp; omega))⟩

theorem small_pts {W H : Nat} {s : ByteArray} {pol : Nat} {draws : ByteArray} (hw : W ≤ 32) (hh : H ≤ 32) {c : Qm.Sd × Nat} (hc : Qm.Cyc (fB W H s pol draws) (bB W H s) c.1 c.2) : Qm.Small (Qm.ptsOf (fB W H s pol draws) c) := by
  intro p hp
  obtain ⟨i, _, rfl⟩ := List.mem_map.1 hp
  have st := Qm.step (Qm.pic_of W H s.data.toList hw hh) (Qm.jnB W H s.data.toList pol draws.data.toList)
  have := Qm.side_in (Qm.pic_of W H s.data.toList hw hh) (st.its hc.1 i)
  exact ⟨this.1, by have := this.2.1; exact Int.le_trans this (by omega), this.2.2.1, Int.le_trans this.2.2.2 (by omega)⟩

theorem alloc_run (Z : Array Value) (zw : ∀ w : World, Sem.run Tryd.prog (zeroValue 61) w = Result.ok (Value.agg Z) w) (ρ : Operand → Value) (o : Oper) (ho : o.op = .alloc 61) (w : World) :
    (execOp ρ o).run Tryd.prog w = .ok (.value (.pointer (some ⟨w.heap.size, 0, none⟩))) (w.alloc (.cells Z 61)) := by
  unfold execOp
  simp only [ho]
  simp [Instr.alloc, zw, Value.cells, go_sem]

def FindOut (W H : Nat) (s : ByteArray) (pol : Nat) (draws : ByteArray) (w : World) (vl : Value) (w' : World) : Prop :=
  ∃ L : List (Value × (Qm.Sd × Nat)), Qm.Res (fB W H s pol draws) (bB W H s) Qm.key (L.map (·.2)) ∧ Rowed (fB W H s pol draws) w.heap.size vl L w' ∧ Below w.heap.size w w' ∧ L.length ≤ 1200

set_option maxRecDepth 4000 in
set_option maxHeartbeats 2000000 in
theorem find_yes (W H : Nat) (s : ByteArray) (pol : Nat) (draws : ByteArray) (spk : Int) (w : World) (hm : mayB W H s.data.toList pol spk = true) (hw2 : W ≤ 32) (hh2 : H ≤ 32) (hl : s.size = W * H) (hp : pol ≤ 3) :
    Calls Tryd.prog 18 #[.agg #[.int .i64 W, .int .i64 H, .string s], .agg #[.int .i64 pol, .string draws, .int .i64 spk]] w fun e w' => ∃ vl, e = .returned (.tuple #[vl, .int .i64 0]) ∧ FindOut W H s pol draws w vl w' := by
  obtain ⟨i0, hi, hz0, hz1, hz2⟩ := info_parts infoShape
  obtain ⟨zw, hsw⟩ := zero_of_info infoWk
  have HL := hid hl
  clear hl
  obtain ⟨C, hC⟩ : ∃ C : Array Value, C = ⟨wkL (.int .i64 W) (.int .i64 H) (.string s) (.int .i64 pol) (.string draws) (.int .i64 spk)⟩ := ⟨_, rfl⟩
  obtain ⟨Z, hZ⟩ : ∃ Z : Array Value, Z = ⟨wkL (.int .i64 0) (.int .i64 0) (.string ⟨#[]⟩) (.int .i64 0) (.string ⟨#[]⟩) (.int .i64 0)⟩ := ⟨_, rfl⟩
  have bC := builtWk (.int .i64 W) (.int .i64 H) (.string s) (.int .i64 pol) (.string draws) (.int .i64 spk)
  have sC := wkN_size 4356 (.int .i64 W) (.int .i64 H) (.string s) (.int .i64 pol) (.string draws) (.int .i64 spk)
  have oC := wkN_one 4356 W H pol spk s draws
  have sZ := wkN_size 4356 (.int .i64 0) (.int .i64 0) (.string ⟨#[]⟩) (.int .i64 0) (.string ⟨#[]⟩) (.int .i64 0)
  rw [← hC] at bC sC oC
  rw [← hZ] at zw sZ
  have HC := hid hC
  have BC := hid bC
  have SC := hid sC
  have OC := hid oC
  have SZ := hid sZ
  have HSW := hid hsw
  clear hC hZ bC sC oC sZ hsw
  go_enter Tryd.func18, Tryd.ntmps18
  go_wp2_with fail
  refine (mayBe_any W H s pol draws spk _).mono ?_
  rintro e w1 ⟨rfl, hb⟩
  rw [hm]
  have HB := hid hb
  obtain ⟨hc, hf⟩ := bcell hb
  clear hb
  go_wp2_with (with_reducible (show wpList _ _ _ ({ dst := some 18, op := Op.build _ _, type := _, pos := _, after := _, guard := _ } :: _) _ _; refine Hid.out ?_))
  refine hid ?_
  refine wpList_buildTo rfl 61 _ rfl (some 18) rfl C ?hf ?_
  case hf => simp only [List.map_toArray, List.map_cons, List.map_nil]; exact BC.out
  refine Great.wpList_allocTo rfl (some 6) rfl (.pointer (some ⟨w1.heap.size, 0, none⟩)) (.cells Z 61) (alloc_run Z zw _ _ rfl _) ?_
  refine wpList_store_row rfl 61 _ _ rfl w1.heap.size C rfl rfl 61 Z (heap_alloc_last _ _) (by rw [HSW.out, SC.out]) (by rw [SC.out, SZ.out]) OC.out ?_
  rw [World.setRow_alloc_new]
  have B1 := hid (show Below w.heap.size w w1 from Below.trans (b := _) (by go_grown) (HB.out.mono (by simp; omega)))
  have z1 : w.heap.size + 2 ≤ w1.heap.size := by have := HB.out.size; simp at this; omega
  obtain ⟨g, hgg⟩ : ∃ g, g = w1.heap.size := ⟨_, rfl⟩
  obtain ⟨X, hX⟩ : ∃ X, X = w1.alloc (.cells C 61) := ⟨_, rfl⟩
  have xk : Wk g W H s pol draws spk X := by rw [hX, hgg, HC.out]; exact Wk.newN 4356 W H s pol draws spk w1 _
  have xt : Tkn g (fun _ => false) X := by rw [hX, hgg, HC.out]; exact Tkn.new _ _ _ _ _ _ w1 _
  have xb : Below g w1 X := by rw [hX, hgg]; go_grown
  have m0 : X.cell? ⟨w.heap.size, 0, none⟩ = some (.int .i64 W) := (xb.cell (p := ⟨w.heap.size, 0, none⟩) (by simp; omega)).trans ((hc _ _ (by simp; omega)).trans (by simp))
  have m1 : X.cell? ⟨w.heap.size, 1, none⟩ = some (.int .i64 H) := (xb.cell (p := ⟨w.heap.size, 1, none⟩) (by simp; omega)).trans ((hc _ _ (by simp; omega)).trans (by simp))
  have xf : FI g W H s pol draws spk X 0 [] (fun _ => false) (.slice none 0 0) X :=
    ⟨by simp, by simp, by simp, fun t _ => by simp [Qm.Tk], fun t ht hk _ => by have := Qm.side_in (Qm.pic_of W H s.data.toList hw2 hh2) ht; unfold Qm.key at hk; omega, xk, xt, ⟨World.ownsRow_nil _ _ _ _, by simp, by simp⟩, Below.refl _ _, by simp⟩
  have XF := hid xf
  have XB := hid xb
  have gz : w.heap.size + 2 ≤ g := by omega
  rw [← hX, ← hgg]
  clear HC BC SC OC SZ HSW zw xf xk xt xb hX hgg hc hf z1 HB
  go_wp2
  go_loopw [7, 8] (fun vl yv wr => ∃ (y : Nat) (L : List (Value × (Qm.Sd × Nat))) (T : Nat → Bool), y ≤ H + 1 ∧ yv = .int .i64 y ∧ Hid (FI g W H s pol draws spk X (33 * (y : Int)) L T vl wr)) (fun _ y _ => H + 1 - (intOf y).toNat)
  case atStart => exact ⟨0, [], _, by omega, rfl, by simpa using XF⟩
  case round =>
    clear XF
    obtain ⟨y, L, T, hy, rfl, h⟩ := hrel
    have q0 := (h.out.below.cell (p := ⟨w.heap.size, 0, none⟩) (by simp; omega)).trans m0
    have q1 := (h.out.below.cell (p := ⟨w.heap.size, 1, none⟩) (by simp; omega)).trans m1
    by_cases hlt : y < H + 1
    · have hlt' : (y : Int) ≤ (H : Nat) := by omega
      go_wp2
      go_loopw [7, 9] (fun vl xv wr => ∃ (x : Nat) (L : List (Value × (Qm.Sd × Nat))) (T : Nat → Bool), x ≤ W + 1 ∧ xv = .int .i64 x ∧ Hid (FI g W H s pol draws spk X (33 * (y : Int) + (x : Nat)) L T vl wr)) (fun _ x _ => W + 1 - (intOf x).toNat)
      case atStart => exact ⟨0, L, T, by omega, rfl, by simpa using h⟩
      case round =>
        clear h q0 q1
        obtain ⟨x, L, T, hx, rfl, h⟩ := hrel
        have q0 := (h.out.below.cell (p := ⟨w.heap.size, 0, none⟩) (by simp; omega)).trans m0
        by_cases hxt : x < W + 1
        · have hxt' : (x : Int) ≤ (W : Nat) := by omega
          have ex := hid (show (33 * (y : Int) + ((x + 1 : Nat) : Int)) = 33 * (y : Int) + (x : Nat) + 1 by omega)
          go_wp2_with fail
          refine (walkFrom_any g W H s pol draws spk (L.map (·.2)) T x y (by omega) (by omega) hp _ h.out.wk h.out.tkn hw2 hh2 HL.out h.out.cyc h.out.rep h.out.ahead).mono ?_
          rintro e w2 ⟨v, rfl, n, T2, R', s0, o2, g2, k2, t2, hn, hr, ha, hcase⟩
          have O2 := hid o2
          have G2 := hid g2
          have K2 := hid k2
          have T2' := hid t2
          have HR := hid hr
          have HA := hid ha
          have HCS := hid hcase
          clear o2 g2 k2 t2 hr ha hcase
          by_cases h0 : 0 < n
          · obtain ⟨gp, cap, rfl, hgp, hpt, hnl⟩ := own_at O2.out h0
            have HPT := hid hpt
            have HNL := hid hnl
            clear hpt hnl
            have h0' : (0 : Int) < (n : Nat) := by omega
            rcases HCS.out with ⟨e0, _⟩ | ⟨_, eR, hcan, hkey⟩
            · omega
            have ER := hid eR
            have HCAN := hid hcan
            have HKEY := hid hkey
            clear eR hcan hkey
            go_wp2_with fail
            refine (twice_any gp n cap _ HNL.out h0 (small_pts hw2 hh2 HCAN.out.1) hn _ HPT.out).mono ?_
            rintro e w3 ⟨rfl, b3⟩
            have B3 := hid b3
            have z3 := b3.size
            have z2 := G2.out.size
            clear b3
            have gk := h.out.wk.2.2.2.2.2.2
            have few := h.out.few
            have n1 : L.length + 1 ≤ maxLen := by unfold maxLen; omega
            have n2 : (L.length + 1) * 32 ≤ 140737488355328 := by omega
            obtain ⟨tw, htw⟩ : ∃ tw, tw = Qm.twiceOf (Qm.ptsOf (fB W H s pol draws) (s0, n)) := ⟨_, rfl⟩
            rw [← htw]
            have HTW := hid htw
            have R3 := hid (own_below (own_keep h.out.rowed.row (by omega) G2.out) B3.out)
            have n3 : g + 1 ≤ (w3.alloc (.cells #[.slice (some ⟨gp, 0, none⟩) n cap, .int .i64 tw] 42)).heap.size := by simp; omega
            clear htw gk few
            go_wp2_with (first
              | (at_builtin; refine wpList_append_own_at _ rfl _ _ 27 rfl (g + 1) 42 i0 (.agg #[.slice none 0 0, .int .i64 0]) 2 32 Tryd.underlying27 hi hz0 hz1 hz2 rfl (by decide) _ _ _ rfl (R3.out.alloc _) ⟨_, 0, none⟩ 1 1 [.slice (some ⟨gp, 0, none⟩) n cap, .int .i64 tw] rfl rfl ?c1 ?c2 n1 n2 n3 ?_))
            case c1 =>
              intro j u hj
              match j, hj with
              | 0, hj => simp at hj; subst hj; simp [Addr.add]
              | 1, hj => simp at hj; subst hj; simp [Addr.add]
            case c2 => intro u hu; simp at hu; rcases hu with rfl | rfl <;> rfl
            intro vl' w4 o4 g4 _ e4
            have N := h.out.found (w2 := w2) (w3 := w3) (w4 := w4) (v := .slice (some ⟨gp, 0, none⟩) n cap) (vl' := vl') (s0 := s0) (n := n) (o := .cells #[.slice (some ⟨gp, 0, none⟩) n cap, .int .i64 tw] 42) G2.out K2.out T2'.out (by rw [← ER.out]; exact HR.out) (by rw [← ER.out]; exact HA.out) HCAN.out HKEY.out O2.out h0 B3.out (by rw [← HTW.out]; exact o4) g4 (by simpa using e4)
            rw [← ex.out] at N
            have HN := hid N
            clear N o4 g4 e4 n3
            go_wp2
            go_roundw
            case rel => exact ⟨x + 1, _, _, by omega, by go_num, HN⟩
            case measure => simp [intOf]; omega
          · have e0 : n = 0 := by omega
            subst e0
            obtain ⟨ao, cap, rfl⟩ := own_len O2.out
            rcases HCS.out with ⟨_, eR⟩ | ⟨e0, _⟩
            · have N := h.out.none G2.out K2.out T2'.out (by rw [← eR]; exact HR.out) (by rw [← eR]; exact HA.out)
              rw [← ex.out] at N
              have HN := hid N
              clear N eR
              go_wp2
              go_roundw
              case rel => exact ⟨x + 1, _, _, by omega, by go_num, HN⟩
              case measure => simp [intOf]; omega
            · omega
        · have hxt' : ((W : Nat) : Int) < (x : Nat) := by omega
          have N := h.out
          rw [show (33 * (y : Int) + ((x : Nat) : Int)) = 33 * (y : Int) + W + 1 by omega] at N
          have HN := hid (N.row hw2 hh2)
          clear N
          go_wp2
          go_roundw
          case rel => exact ⟨y + 1, L, T, by omega, by go_num, HN⟩
          case measure => simp [intOf]; omega
    · have hlt' : ((H : Nat) : Int) < (y : Nat) := by omega
      go_wp2
      go_ret2
      exact ⟨_, rfl, L, h.out.res hw2 hh2 (by omega), ⟨h.out.rowed.row.mono (by omega), fun p hp => (h.out.rowed.pts p hp).mono (by omega), h.out.rowed.apart⟩, (B1.out.trans (XB.out.mono (by omega))).trans (h.out.below.mono (by omega)), by have := h.out.few; omega⟩
end Go.Proofs.YtljfiefobnncaabDoor

/- outline.Cycles; what one sees of an answer; marks in a row. -/
namespace Go.Proofs.YtljfiefobnncaabDoor
open Go.RowKit

theorem infoBool : (Tryd.prog.info? 4).map (fun i => (i.zero, i.size, i.bytes)) = some (some (.bool false), 1, 1) := by kernel_rfl

/-- The marks stand in the world. -/
def GoneAt (gg n : Nat) (G : Nat → Bool) (w : World) : Prop := gg < w.heap.size ∧ ∀ j, j < n → w.cell? ⟨gg, j, none⟩ = some (.bool (G j)) ∧ w.frozen? ⟨gg, j, none⟩ = false
theorem GoneAt.on {gg n : Nat} {G : Nat → Bool} {w w' : World} {B : Nat} (h : GoneAt gg n G w) (hb : Below B w w') (hg : gg < B) : GoneAt gg n G w' :=
  ⟨Nat.lt_of_lt_of_le h.1 hb.size, fun j hj => ⟨(hb.cell (p := ⟨gg, j, none⟩) hg).trans (h.2 j hj).1, (hb.frozen (p := ⟨gg, j, none⟩) hg).trans (h.2 j hj).2⟩⟩
theorem GoneAt.set {gg n : Nat} {G : Nat → Bool} {w : World} (h : GoneAt gg n G w) (k : Nat) : GoneAt gg n (Qm.mark G k) (w.setCell ⟨gg, k, none⟩ (.bool true)) := by
  refine ⟨by rw [World.size_setCell]; exact h.1, fun j hj => ⟨?_, by simpa using (h.2 j hj).2⟩⟩
  by_cases e : j = k
  · subst e
    rw [World.cell?_setCell_same _ _ _ (h.2 j hj).1]
    simp [Qm.mark]
  · rw [World.cell?_setCell_other _ _ _ _ (by intro e2; injection e2 with _ e3 _; omega), (h.2 j hj).1]
    simp [Qm.mark, e]

/-- An answer, to be read. -/
structure Shown (f : Qm.Sd → Qm.Sd) (vl : Value) (L : List (Value × (Qm.Sd × Nat))) (w : World) : Prop where
  row : ∃ ao cap, vl = .slice ao L.length cap ∧ (L.length = 0 ∨ ∃ gl, ao = some ⟨gl, 0, none⟩ ∧ gl < w.heap.size ∧ ∀ j u, (shpV f L)[j]? = some u → w.cell? ⟨gl, j, none⟩ = some u)
  pts : ∀ p ∈ L, ∃ g cap, p.1 = .slice (some ⟨g, 0, none⟩) p.2.2 cap ∧ 0 < p.2.2 ∧ PtsAt g (Qm.ptsOf f p.2) w
theorem Rowed.shown {f : Qm.Sd → Qm.Sd} {b : Nat} {vl : Value} {L : List (Value × (Qm.Sd × Nat))} {w : World} (h : Rowed f b vl L w) (hn : ∀ p ∈ L, 0 < p.2.2) : Shown f vl L w := by
  refine ⟨?_, fun p hp => ?_⟩
  · obtain ⟨ao, cap, e⟩ := own_len h.row
    refine ⟨ao, cap, e, ?_⟩
    rcases h.row.2 with ⟨_, h0⟩ | ⟨g, cap', cur, e', _, hg, _⟩
    · exact .inl h0
    · right
      have e2 : ao = some ⟨g, 0, none⟩ := by rw [e] at e'; injection e'
      refine ⟨g, e2, (Array.getElem?_eq_some_iff.1 hg).1, fun j u hu => ?_⟩
      have := h.row.cells (g := g) (by rw [e']; rfl) j u hu
      rwa [add_zero_at] at this
  · obtain ⟨g, cap, e, _, h2, _⟩ := own_at (h.pts p hp) (hn p hp)
    exact ⟨g, cap, e, hn p hp, h2⟩
theorem own_max {w : World} {b : Nat} {t : TypeId} {z : Nat} {v : Value} {n : Nat} {xs : List Value} (h : w.ownsRow b t z v n xs) : n ≤ 9223372036854775807 := by
  rcases h.2 with ⟨_, rfl⟩ | ⟨g, cap, cur, _, _, _, h1, h2, _⟩
  · omega
  · unfold maxLen at h2; omega
theorem Shown.on {f : Qm.Sd → Qm.Sd} {vl : Value} {L : List (Value × (Qm.Sd × Nat))} {w w' : World} (h : Shown f vl L w) (hb : Below w.heap.size w w') : Shown f vl L w' := by
  refine ⟨?_, fun p hp => ?_⟩
  · obtain ⟨ao, cap, e, h1⟩ := h.row
    refine ⟨ao, cap, e, h1.imp id ?_⟩
    rintro ⟨gl, e2, h3, h4⟩
    exact ⟨gl, e2, Nat.lt_of_lt_of_le h3 hb.size, fun j u hu => (hb.cell (p := ⟨gl, j, none⟩) h3).trans (h4 j u hu)⟩
  · obtain ⟨g, cap, e, h2, h4⟩ := h.pts p hp
    exact ⟨g, cap, e, h2, h4.on hb h4.1⟩

theorem shpV_at (f : Qm.Sd → Qm.Sd) (L : List (Value × (Qm.Sd × Nat))) : ∀ (j : Nat) (h : j < L.length), (shpV f L)[j * 2]? = some L[j].1 ∧ (shpV f L)[j * 2 + 1]? = some (.int .i64 (Qm.twiceOf (Qm.ptsOf f L[j].2))) := by
  induction L with
  | nil => intro j h; simp at h
  | cons p L ih =>
    intro j h
    have e : shpV f (p :: L) = p.1 :: .int .i64 (Qm.twiceOf (Qm.ptsOf f p.2)) :: shpV f L := by simp [shpV]
    cases j with
    | zero => rw [e]; simp
    | succ j =>
      have := ih j (by simpa using h)
      rw [e, show (j + 1) * 2 = j * 2 + 1 + 1 from by omega, show j * 2 + 1 + 1 + 1 = (j * 2 + 1) + 1 + 1 from by omega]
      simpa using this

theorem run_le {W H : Nat} {s : ByteArray} {pol : Nat} {draws : ByteArray} (hw : W ≤ 32) (hh : H ≤ 32) {t : Qm.Sd} (ht : bB W H s t) : ∀ m, Qm.Run (fB W H s pol draws) t m → ∃ T, Qm.RepM (Pm.blackB W H s.data.toList) (fB W H s pol draws) T [] t m ∧ m + Qm.cntF T 4356 ≤ 4356
  | 0, _ => ⟨fun _ => false, fun u _ => by simp [Qm.Tk], by have := Qm.cntF_le (fun _ => false) 4356; omega⟩
  | m + 1, h => by
    obtain ⟨T, h1, h2⟩ := run_le hw hh ht m (fun i j hij hj => h i j hij (by omega))
    have hp := Qm.pic_of W H s.data.toList hw hh
    have st := Qm.step hp (Qm.jnB W H s.data.toList pol draws.data.toList)
    have hs := st.its ht m
    have hT : T (Qm.codeS (Qm.it (fB W H s pol draws) m t)).toNat = false := by
      cases hc : T (Qm.codeS (Qm.it (fB W H s pol draws) m t)).toNat with
      | false => rfl
      | true =>
        rcases (h1 _ hs).1 hc with ⟨c, hc, _⟩ | ⟨i, hi, e⟩
        · simp at hc
        · exact absurd e.symm (h i m hi (by omega))
    have c4 := Qm.code_in hp hs
    have hlt : (Qm.codeS (Qm.it (fB W H s pol draws) m t)).toNat < 4356 := by
      show (Qm.codeS (Qm.it (Qm.nx (Pm.blackB W H s.data.toList) (Qm.jnB W H s.data.toList pol draws.data.toList)) m t)).toNat < 4356
      omega
    have := Qm.cntF_mark T _ hT 4356 hlt
    exact ⟨_, h1.succ hp hs, by omega⟩
theorem cyc_le {W H : Nat} {s : ByteArray} {pol : Nat} {draws : ByteArray} (hw : W ≤ 32) (hh : H ≤ 32) {t : Qm.Sd} {n : Nat} (h : Qm.Cyc (fB W H s pol draws) (bB W H s) t n) : n ≤ 4356 := by
  obtain ⟨T, _, h2⟩ := run_le hw hh h.1 n h.2.2.2
  omega

set_option maxRecDepth 4000 in
set_option maxHeartbeats 400000 in
theorem cycles_no (W H : Int) (s : ByteArray) (pol : Int) (draws : ByteArray) (spk : Int) (w : World) (hm : mayB W H s.data.toList pol spk = false) :
    Calls Tryd.prog 17 #[.agg #[.int .i64 W, .int .i64 H, .string s], .agg #[.int .i64 pol, .string draws, .int .i64 spk]] w fun e w' => e = .returned (.tuple #[.slice none 0 0, .int .i64 4]) ∧ Below w.heap.size w w' := by
  go_enter Tryd.func17, Tryd.ntmps17
  go_wp2_with fail
  refine (find_no W H s pol draws spk _ hm).mono ?_
  rintro e w1 ⟨rfl, hb⟩
  have HB := hid hb
  clear hb
  go_wp2
  go_ret2
  exact ⟨rfl, Below.trans (b := _) (by go_grown) (HB.out.mono (by simp; omega))⟩

set_option maxRecDepth 4000 in
set_option maxHeartbeats 400000 in
theorem cycles_yes (W H : Nat) (s : ByteArray) (pol : Nat) (draws : ByteArray) (spk : Int) (w : World) (hm : mayB W H s.data.toList pol spk = true) (hw2 : W ≤ 32) (hh2 : H ≤ 32) (hl : s.size = W * H) (hp : pol ≤ 3) :
    Calls Tryd.prog 17 #[.agg #[.int .i64 W, .int .i64 H, .string s], .agg #[.int .i64 pol, .string draws, .int .i64 spk]] w fun e w' => ∃ vl, e = .returned (.tuple #[vl, .int .i64 0]) ∧ FindOut W H s pol draws w vl w' := by
  have HL := hid hl
  clear hl
  go_enter Tryd.func17, Tryd.ntmps17
  go_wp2_with fail
  refine (find_yes W H s pol draws spk _ hm hw2 hh2 HL.out hp).mono ?_
  rintro e w1 ⟨vl, rfl, L, h1, h2, h3, h4⟩
  have H1 := hid h1
  have H2 := hid h2
  have H3 := hid h3
  clear h1 h2 h3
  go_wp2
  go_ret2
  exact ⟨vl, rfl, L, H1.out, ⟨H2.out.row.mono (by simp; omega), fun p hp => (H2.out.pts p hp).mono (by simp; omega), H2.out.apart⟩, Below.trans (b := _) (by go_grown) (H3.out.mono (by simp; omega)), h4⟩

theorem may_parts {W H : Int} {l : List UInt8} {pol spk : Int} (h : mayB W H l pol spk = true) : Pm.goodB W H l = true ∧ 0 ≤ pol ∧ pol ≤ 3 := by
  unfold mayB at h
  simp only [Bool.and_eq_true, decide_eq_true_eq] at h
  exact ⟨h.1.1, h.1.2.1, h.1.2.2⟩

end Go.Proofs.YtljfiefobnncaabDoor

/- Package polygons: bestRows. -/
namespace Go.Proofs.YtljfiefobnncaabDoor
open Go.RowKit

namespace Qm
theorem accR_in {l : List Pt} {B : List Rw} (hs : Small l) {M C : Int} (hM : 0 ≤ M) (hC : 0 ≤ C) (h : ∀ j, 0 ≤ (B.getD j (0, 0, 0)).1 ∧ (B.getD j (0, 0, 0)).1 ≤ M ∧ 0 ≤ (B.getD j (0, 0, 0)).2.1 ∧ (B.getD j (0, 0, 0)).2.1 ≤ C) : ∀ k, k ≤ 12 → 0 ≤ (accR l B k).1 ∧ (accR l B k).1 ≤ M + 1 ∧ 0 ≤ (accR l B k).2.1 ∧ (accR l B k).2.1 ≤ C + 28672
  | 0, _ => by simp only [accR]; omega
  | k + 1, hk => by
    have ih := accR_in hs hM hC h k (by omega)
    have hB := h (B.length - (k + 1))
    have c := costOf_in (hs.take (k + 2))
    have ln : ((l.take (k + 2)).length : Int) ≤ 14 := by rw [List.length_take]; omega
    simp only [accR]
    split
    · dsimp only; omega
    · exact ih
theorem rowsTo_in {v : List Pt} (hs : Small v) (m : Nat) : ∀ j, 0 ≤ ((rowsTo v m).getD j (0, 0, 0)).1 ∧ ((rowsTo v m).getD j (0, 0, 0)).1 ≤ m ∧ 0 ≤ ((rowsTo v m).getD j (0, 0, 0)).2.1 ∧ ((rowsTo v m).getD j (0, 0, 0)).2.1 ≤ 28672 * m := by
  induction m with
  | zero => intro j; simp [rowsTo]
  | succ m ih =>
    intro j
    have a := accR_in (hs.drop (v.length - 1 - m)) (by omega) (by omega) ih (spn (m + 1) m) (by unfold spn; omega)
    have ij := ih j
    simp only [rowsTo, List.getD_eq_getElem?_getD, List.getElem?_append, rowsTo_len] at ij ⊢
    split
    · omega
    · cases hjm : j - m with
      | zero => simp only [List.getElem?_cons_zero, Option.getD_some]; omega
      | succ q => simp; omega
end Qm

def rwL (r : Qm.Rw) : List Value := [.int .i64 r.1, .int .i64 r.2.1, .int .i64 r.2.2]
def rwsV (B : List Qm.Rw) : List Value := B.flatMap rwL
theorem rwsV_snoc (B : List Qm.Rw) (r : Qm.Rw) : rwsV (B ++ [r]) = rwsV B ++ rwL r := by simp [rwsV]
theorem rwsV_at (B : List Qm.Rw) : ∀ j, j < B.length → (rwsV B)[j * 3]? = some (.int .i64 (B.getD j (0, 0, 0)).1) ∧ (rwsV B)[j * 3 + 1]? = some (.int .i64 (B.getD j (0, 0, 0)).2.1) ∧ (rwsV B)[j * 3 + 2]? = some (.int .i64 (B.getD j (0, 0, 0)).2.2) := by
  induction B with
  | nil => intro j hj; simp at hj
  | cons p B ih =>
    intro j hj
    have e : rwsV (p :: B) = .int .i64 p.1 :: .int .i64 p.2.1 :: .int .i64 p.2.2 :: rwsV B := by simp [rwsV, rwL]
    cases j with
    | zero => rw [e]; simp
    | succ j =>
      have := ih j (by simpa using hj)
      rw [e, show (j + 1) * 3 = j * 3 + 1 + 1 + 1 from by omega, show j * 3 + 1 + 1 + 1 + 1 = (j * 3 + 1) + 1 + 1 + 1 from by omega, show j * 3 + 1 + 1 + 1 + 2 = (j * 3 + 2) + 1 + 1 + 1 from by omega]
      simpa using this
theorem own_rows {w : World} {b : Nat} {t : TypeId} {v : Value} {B : List Qm.Rw} {n : Nat} (h : w.ownsRow b t 3 v n (rwsV B)) : ∃ ao cap, v = .slice ao n cap ∧ (n = 0 ∨ ∃ gb, ao = some ⟨gb, 0, none⟩ ∧ RowsAt gb B w) := by
  rcases h.2 with ⟨rfl, h0⟩ | ⟨g, cap, cur, rfl, hb, hg, _, _, _, _⟩
  · subst h0; exact ⟨_, _, rfl, .inl rfl⟩
  · refine ⟨_, cap, rfl, .inr ⟨g, rfl, (Array.getElem?_eq_some_iff.1 hg).1, fun j hj => ?_⟩⟩
    have c := fun j u hu => h.cells (g := g) rfl j u hu
    have p := rwsV_at B j hj
    have a1 := c _ _ p.1
    have a2 := c _ _ p.2.1
    have a3 := c _ _ p.2.2
    rw [add_zero_at] at a1 a2 a3
    exact ⟨a1, a2, a3⟩
theorem three_cells (w : World) (a b c : Int) (t : TypeId) : ∀ (j : Nat) (u : Value), [Value.int .i64 a, .int .i64 b, .int .i64 c][j]? = some u → (w.alloc (.cells #[.int .i64 a, .int .i64 b, .int .i64 c] t)).cell? ((⟨w.heap.size, 0, none⟩ : Addr).add j) = some u := by
  intro j u hj
  match j, hj with
  | 0, hj => simp at hj; subst hj; simp [Addr.add]
  | 1, hj => simp at hj; subst hj; simp [Addr.add]
  | 2, hj => simp at hj; subst hj; simp [Addr.add]
theorem three_at (B : Nat) (w : World) (a b c : Int) (t : TypeId) (hB : B = w.heap.size) : ∀ (j : Nat) (u : Value), [Value.int .i64 a, .int .i64 b, .int .i64 c][j]? = some u → (w.alloc (.cells #[.int .i64 a, .int .i64 b, .int .i64 c] t)).cell? ((⟨B, 0, none⟩ : Addr).add j) = some u := by
  subst hB; exact three_cells w a b c t
theorem three_one (a b c : Int) : ∀ u ∈ [Value.int .i64 a, .int .i64 b, .int .i64 c], u.oneCell' = true := by
  intro u hu; simp at hu; rcases hu with rfl | rfl | rfl <;> rfl
theorem own_cap' {w : World} {b : Nat} {t : TypeId} {z : Nat} {v : Value} {n : Nat} {xs : List Value} (h : w.ownsRow b t z v n xs) : ∃ ao cap, v = .slice ao n cap ∧ n ≤ cap := by
  rcases h.2 with ⟨rfl, rfl⟩ | ⟨g, cap, cur, rfl, _, _, h1, _⟩
  · exact ⟨_, _, rfl, Nat.le_refl _⟩
  · exact ⟨_, _, rfl, h1⟩
theorem infoRow : (Tryd.prog.info? 67).map (fun i => (i.zero, i.size, i.bytes)) = some (some (.agg #[.int .i64 0, .int .i64 0, .int .i64 0]), 3, 24) := by kernel_rfl

set_option maxRecDepth 4000 in
set_option maxHeartbeats 2000000 in
theorem bestRows_any (g N cap : Nat) (v : List (Int × Int)) (hn : N = v.length) (h0 : 0 < N) (hcap : N ≤ cap) (hs : Qm.Small v) (hn2 : N ≤ 4357) (w : World) (hP : PtsAt g v w) :
    Calls Tryd.prog 31 #[.slice (some ⟨g, 0, none⟩) N cap] w fun e w' => ∃ vr, e = .returned vr ∧ w'.ownsRow w.heap.size 67 3 vr N (rwsV (Qm.rowsTo v N)) ∧ Below w.heap.size w w' := by
  obtain ⟨i0, hi, hz0, hz1, hz2⟩ := info_parts infoRow
  have HP := hid hP
  have hg := hP.1
  have HN := hid hn
  have HS := hid hs
  clear hP hn hs
  go_enter Tryd.func31, Tryd.ntmps31
  go_wp2_with fail
  go_loopw [3, 4] (fun vr iv wr => ∃ m : Nat, m ≤ N ∧ iv = .int .i64 ((N : Int) - 1 - (m : Nat)) ∧ wr.ownsRow w.heap.size 67 3 vr m (rwsV (Qm.rowsTo v m)) ∧ Below w.heap.size w wr) (fun _ i _ => (intOf i + 1).toNat)
  case atStart => exact ⟨0, by omega, by go_num, World.ownsRow_nil _ _ _ _, Below.refl _ _⟩
  case round =>
    obtain ⟨m, hm, rfl, hown, hb⟩ := hrel
    have HB := hid hb
    have OW := hid hown
    have hz := hb.size
    by_cases hlt : m < N
    · obtain ⟨q, hq⟩ : ∃ q, q = N - 1 - m := ⟨_, rfl⟩
      have e1 : (N : Int) - 1 - (m : Nat) = (q : Nat) := by omega
      have e2 : (0 : Int) ≤ (q : Nat) := by omega
      have e3 : (q : Int) ≤ (N : Nat) := by omega
      have e4 : q ≤ cap := by omega
      have e5 : q ≤ N := by omega
      have e6 : N - q = m + 1 := by omega
      obtain ⟨ao, capb, rfl, hrow⟩ := own_rows hown
      have BRH := hid (show ∀ W', Below w.heap.size w W' → (m = 0 ∨ ∃ gb, ao = some ⟨gb, 0, none⟩ ∧ RowsAt gb (Qm.rowsTo v m) W') → Calls Tryd.prog 40 #[.slice (some ⟨g, q * 2, none⟩) (m + 1) (cap - q), .slice ao m capb] W' fun e w' => e = .returned (rwV (Qm.accR (v.drop q) (Qm.rowsTo v m) (Qm.spn (m + 1) m))) ∧ Below W'.heap.size W' w' from fun W' h hr => by
        have p := ((HP.out.o).on h hg).drop q
        rw [Nat.zero_add] at p
        exact bestRow_any g (q * 2) (m + 1) (cap - q) (v.drop q) (by rw [List.length_drop, ← HN.out]; omega) (by omega) (by omega) (HS.out.drop q) (by omega) ao m capb (Qm.rowsTo v m) (Qm.rowsTo_len v m).symm (by omega) W' p hr (fun j => by have := Qm.rowsTo_in HS.out m j; omega))
      have RT := hid (show Qm.rowsTo v (m + 1) = Qm.rowsTo v m ++ [Qm.accR (v.drop q) (Qm.rowsTo v m) (Qm.spn (m + 1) m)] by rw [hq, HN.out]; rfl)
      obtain ⟨⟨ra, rb, rc⟩, hrr⟩ : ∃ r, r = Qm.accR (v.drop q) (Qm.rowsTo v m) (Qm.spn (m + 1) m) := ⟨_, rfl⟩
      rw [← hrr] at BRH RT
      have HRW := hid hrow
      have HQ := hid hq
      unfold rwV at BRH
      dsimp only at BRH
      clear hb hown hrr hrow hq
      rw [e1]
      go_wp2_with fail
      refine (BRH.out _ HB.out HRW.out).mono ?_
      rintro e w1 ⟨rfl, hb1⟩
      have B1 := hid (show Below w.heap.size w w1 from HB.out.trans (hb1.mono hz))
      have O1 := hid (own_below OW.out hb1)
      have z1 := B1.out.size
      clear hb1
      have n1 : m + 1 ≤ maxLen := by unfold maxLen; omega
      have n2 : (m + 1) * 24 ≤ 140737488355328 := by omega
      have n3 : w.heap.size ≤ ((w1.alloc (.cells #[.int .i64 ra, .int .i64 rb, .int .i64 rc] 67)).alloc (.cells #[.int .i64 ra, .int .i64 rb, .int .i64 rc] 67)).heap.size := by simp; omega
      go_wp2_with (first
        | (at_builtin; refine wpList_append_own _ rfl _ _ 64 rfl w.heap.size 67 i0 (.agg #[.int .i64 0, .int .i64 0, .int .i64 0]) 3 24 Tryd.underlying64 hi hz0 hz1 hz2 rfl (by decide) _ _ _ rfl ((O1.out.alloc _).alloc _) ⟨_, 0, none⟩ 1 1 [.int .i64 ra, .int .i64 rb, .int .i64 rc] rfl rfl (three_at _ _ _ _ _ _ (by simp)) (three_one _ _ _) n1 n2 n3 ?_))
      intro v' w3 o3 g3 _
      have B3 := hid (show Below w.heap.size w w3 from ((B1.out.alloc z1 _).alloc (by simp; omega) _).grown g3 n3 (fun q hq => (O1.out.lt q hq).1))
      have O3 := hid (show w3.ownsRow w.heap.size 67 3 v' (m + 1) (rwsV (Qm.rowsTo v (m + 1))) by rw [RT.out, rwsV_snoc]; exact o3)
      clear o3 g3
      go_wp2
      go_roundw
      case rel => exact ⟨m + 1, by omega, by have := HQ.out; go_num, O3.out, B3.out⟩
      case measure => simp [intOf]
    · have em : m = N := by omega
      have e1 : (N : Int) - 1 - (m : Nat) = -1 := by omega
      subst em
      rw [e1]
      go_wp2
      go_ret
      exact ⟨_, rfl, OW.out, HB.out⟩
end Go.Proofs.YtljfiefobnncaabDoor

/- Package polygons: corners. -/
namespace Go.Proofs.YtljfiefobnncaabDoor
open Go.RowKit

namespace Qm
theorem accR_span (l : List Pt) (B : List Rw) : ∀ k, 0 ≤ (accR l B k).2.2 ∧ (accR l B k).2.2 ≤ k
  | 0 => by simp [accR]
  | k + 1 => by
    have ih := accR_span l B k
    simp only [accR]
    split
    · dsimp only; omega
    · omega
theorem rowsTo_span (v : List Pt) (m : Nat) : ∀ j, 0 ≤ ((rowsTo v m).getD j (0, 0, 0)).2.2 ∧ ((rowsTo v m).getD j (0, 0, 0)).2.2 ≤ 12 := by
  induction m with
  | zero => intro j; simp [rowsTo]
  | succ m ih =>
    intro j
    have a := accR_span (v.drop (v.length - 1 - m)) (rowsTo v m) (spn (m + 1) m)
    have b : spn (m + 1) m ≤ 12 := by unfold spn; omega
    have ij := ih j
    simp only [rowsTo, List.getD_eq_getElem?_getD, List.getElem?_append, rowsTo_len] at ij ⊢
    split
    · omega
    · cases hjm : j - m with
      | zero => simp only [List.getElem?_cons_zero, Option.getD_some]; omega
      | succ q => simp
theorem cornTo_in {B : List Rw} (h : ∀ j, 0 ≤ (B.getD j (0, 0, 0)).2.2 ∧ (B.getD j (0, 0, 0)).2.2 ≤ 12) : ∀ k, 0 ≤ (cornTo B k).2 ∧ (cornTo B k).2 ≤ k + 12 ∧ (cornTo B k).1.length ≤ k
  | 0 => by simp [cornTo]
  | k + 1 => by
    have ih := cornTo_in h k
    have s := h (B.length - 1 - k)
    simp only [cornTo]
    split
    · simp only [List.length_append, List.length_singleton]; omega
    · omega
end Qm

def cpts (c : List (Int × Int)) (I : List Nat) : List (Int × Int) := I.map fun i => c.getD i (0, 0)
theorem cpts_snoc (c : List (Int × Int)) (I : List Nat) (k : Nat) : cpts c (I ++ [k]) = cpts c I ++ [c.getD k (0, 0)] := by simp [cpts]

set_option maxRecDepth 4000 in
set_option maxHeartbeats 2000000 in
theorem corners_any (g n cap : Nat) (c : List (Int × Int)) (hn : n = c.length) (h0 : 0 < n) (hs : Qm.Small c) (hn2 : n ≤ 4356) (w : World) (hP : PtsAt g c w) :
    Calls Tryd.prog 20 #[.slice (some ⟨g, 0, none⟩) n cap] w fun e w' => ∃ v, e = .returned v ∧ w'.ownsRow w.heap.size 46 2 v (Qm.cornL c).length (Qm.ptsV (Qm.cornL c)) ∧ Below w.heap.size w w' := by
  obtain ⟨i0, hi, hz0, hz1, hz2⟩ := info_parts infoPoint
  have HP := hid hP
  have hg := hP.1
  have HN := hid hn
  have HS := hid hs
  have HV := hid (show Qm.Small (c ++ [Qm.fstP c]) from fun p hp => by
    rcases List.mem_append.1 hp with hp | hp
    · exact hs p hp
    · rw [List.mem_singleton.1 hp]; exact hs.at 0)
  have VL := hid (show n + 1 = (c ++ [Qm.fstP c]).length by simp [hn])
  clear hP hn hs
  go_enter Tryd.func20, Tryd.ntmps20
  go_wp2_with fail
  refine (closed_any g n cap c HN.out h0 hn2 _ HP.out).mono ?_
  rintro e w1 ⟨v1, rfl, o1, hb1⟩
  have B1 := hid (show Below w.heap.size w w1 from hb1)
  obtain ⟨g1, cap1, rfl, hg1, hp1, -⟩ := own_at o1 (by omega)
  obtain ⟨ao', cap', e', hc'⟩ := own_cap' o1
  have hc1 : n + 1 ≤ cap1 := by injection e' with _ _ e3; omega
  have HP1 := hid hp1
  clear o1 hb1 hp1 e' hc'
  go_wp2_with fail
  refine (bestRows_any g1 (n + 1) cap1 (c ++ [Qm.fstP c]) VL.out (by omega) hc1 HV.out (by omega) _ HP1.out).mono ?_
  rintro e w2 ⟨v2, rfl, o2, hb2⟩
  have B2 := hid (show Below w.heap.size w w2 from B1.out.trans (hb2.mono B1.out.size))
  obtain ⟨ao2, cap2, rfl, hr2⟩ := own_rows o2
  obtain ⟨gb, hgb⟩ := hr2.resolve_left (by omega)
  obtain ⟨rfl, hrows⟩ := hgb
  have HR := hid hrows
  have hgb2 := hrows.1
  have HP2 := hid (HP.out.on B2.out hg)
  have hg2 : g < w2.heap.size := Nat.lt_of_lt_of_le hg B2.out.size
  obtain ⟨B, hB⟩ : ∃ B, B = Qm.rowsTo (c ++ [Qm.fstP c]) (n + 1) := ⟨_, rfl⟩
  have BL := hid (show B.length = n + 1 by rw [hB, Qm.rowsTo_len])
  have CI := hid (show ∀ k, 0 ≤ (Qm.cornTo B k).2 ∧ (Qm.cornTo B k).2 ≤ k + 12 ∧ (Qm.cornTo B k).1.length ≤ k from fun k => Qm.cornTo_in (by rw [hB]; exact Qm.rowsTo_span _ _) k)
  have SB := hid (show ∀ j, 0 ≤ (B.getD j (0, 0, 0)).2.2 ∧ (B.getD j (0, 0, 0)).2.2 ≤ 12 by rw [hB]; exact Qm.rowsTo_span _ _)
  have CL := hid (show Qm.cornL c = cpts c (Qm.cornTo B n).1 by rw [hB, HN.out]; rfl)
  rw [← hB] at HR
  clear o2 hb2 hr2 hrows hB
  go_wp2_with fail
  go_loopw [5, 6, 7] (fun lv nv iv wr => ∃ k : Nat, k ≤ n ∧ iv = .int .i64 k ∧ nv = .int .i64 (Qm.cornTo B k).2 ∧ wr.ownsRow w2.heap.size 46 2 lv (Qm.cornTo B k).1.length (Qm.ptsV (cpts c (Qm.cornTo B k).1)) ∧ Below w2.heap.size w2 wr) (fun _ _ i _ => n - (intOf i).toNat)
  case atStart => exact ⟨0, by omega, rfl, rfl, World.ownsRow_nil _ _ _ _, Below.refl _ _⟩
  case round =>
    obtain ⟨k, hk, rfl, rfl, hown, hb⟩ := hrel
    have HB := hid hb
    have OW := hid hown
    have hz := hb.size
    have ci := CI.out k
    by_cases hlt : k < n
    · obtain ⟨r0, r1⟩ := (HP2.out.on hb hg2).2 k (by have := HN.out; omega)
      obtain ⟨s0, s1, s2⟩ := (HR.out.on hb hgb2).2 (n - k) (by have := BL.out; omega)
      have sb := SB.out (n - k)
      have hlt' : (k : Int) < (n : Nat) := by omega
      have hlt2 : (k : Int) < (n : Int) + 1 := by omega
      have CT := hid (show Qm.cornTo B (k + 1) = if (k : Int) = (Qm.cornTo B k).2 then ((Qm.cornTo B k).1 ++ [k], (k : Int) + (B.getD (n - k) (0, 0, 0)).2.2) else Qm.cornTo B k by
        have : B.length - 1 - k = n - k := by have := BL.out; omega
        rw [← this]; rfl)
      obtain ⟨sp, hsp⟩ : ∃ sp, sp = (B.getD (n - k) (0, 0, 0)).2.2 := ⟨_, rfl⟩
      rw [← hsp] at s2 sb CT
      obtain ⟨I, nx, hct⟩ : ∃ I nx, Qm.cornTo B k = (I, nx) := ⟨_, _, rfl⟩
      rw [hct] at ci CT OW ⊢
      dsimp only at ci CT OW ⊢
      obtain ⟨q, hq⟩ : ∃ q, q = n - k := ⟨_, rfl⟩
      rw [← hq] at s0 s1 s2
      have q1 : (n : Int) + 1 - 1 - (k : Nat) = (q : Nat) := by omega
      have q1' : (n : Int) - (k : Nat) = (q : Nat) := by omega
      have q2 : (0 : Int) ≤ (q : Nat) := by omega
      have q3 : (q : Int) < (n : Int) + 1 := by omega
      have q4 : q < n + 1 := by omega
      have q5 : IntKind.i64.wrap ((q : Nat) : Int) = (q : Nat) := by rw [IntKind.wrap_i64]; omega
      obtain ⟨⟨pa, pb⟩, hpp⟩ : ∃ p, p = c.getD k (0, 0) := ⟨_, rfl⟩
      have CP := hid (cpts_snoc c I k)
      rw [← hpp] at r0 r1 CP
      dsimp only at r0 r1
      have hgr : g < wr.heap.size := by omega
      have hgbr : gb < wr.heap.size := by omega
      have n1 : I.length + 1 ≤ maxLen := by unfold maxLen; omega
      have n2 : (I.length + 1) * 16 ≤ 140737488355328 := by omega
      have n3 : w2.heap.size ≤ (wr.alloc (.cells #[.int .i64 pa, .int .i64 pb] 46)).heap.size := by simp; omega
      have HQ := hid hq
      have HSP := hid hsp
      clear hb hpp hown hct hq hsp
      by_cases he : (k : Int) = nx
      · rw [if_pos he] at CT
        have de : ((k : Int) == nx) = true := by simpa using he
        have HE := hid he
        clear he
        go_wp2_with (first
          | (at_builtin; refine wpList_append_own _ rfl _ _ 40 rfl w2.heap.size 46 i0 (.agg #[.int .i64 0, .int .i64 0]) 2 16 Tryd.underlying40 hi hz0 hz1 hz2 rfl (by decide) _ _ _ rfl (OW.out.alloc _) ⟨_, 0, none⟩ 1 1 [.int .i64 pa, .int .i64 pb] rfl rfl (two_cells _ _ _ _) (two_one _ _) n1 n2 n3 ?_))
        intro v' w3 o3 g3 _
        have b3 : Below w2.heap.size w2 w3 := (HB.out.alloc hz _).grown g3 n3 (fun q hq => (OW.out.lt q hq).1)
        have B3 := hid b3
        obtain ⟨t0, t1, t2⟩ := (HR.out.on b3 hgb2).2 q (by have := BL.out; omega)
        rw [HQ.out, ← HSP.out] at t2
        rw [← HQ.out] at t2
        have O3 := hid (show w3.ownsRow w2.heap.size 46 2 v' (I ++ [k]).length (Qm.ptsV (cpts c (I ++ [k]))) by rw [CP.out, Qm.ptsV_snoc, List.length_append]; exact o3)
        clear o3 g3 b3 r0 r1 s0 s1 s2
        go_wp2
        go_roundw
        case rel => exact ⟨k + 1, by omega, by go_num, by rw [CT.out], by rw [CT.out]; exact O3.out, B3.out⟩
        case measure => simp [intOf]; omega
      · rw [if_neg he] at CT
        have de : ((k : Int) == nx) = false := by simpa using he
        go_wp2
        go_roundw
        case rel => exact ⟨k + 1, by omega, by go_num, by rw [CT.out], by rw [CT.out]; exact OW.out, HB.out⟩
        case measure => simp [intOf]; omega
    · have ek : k = n := by omega
      subst ek
      have hlt' : ¬ (k : Int) < (k : Nat) := by omega
      have OL := hid (show wr.ownsRow w2.heap.size 46 2 _ (Qm.cornL c).length (Qm.ptsV (Qm.cornL c)) by rw [CL.out]; simp only [cpts, List.length_map]; exact hown)
      clear hown OW
      go_wp2
      go_ret
      exact ⟨_, rfl, OL.out.mono B2.out.size, B2.out.trans (HB.out.mono B2.out.size)⟩
end Go.Proofs.YtljfiefobnncaabDoor
