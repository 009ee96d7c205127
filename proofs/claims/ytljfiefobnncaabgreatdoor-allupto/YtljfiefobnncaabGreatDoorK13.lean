import Derived.Test.YtljfiefobnncaabGreatDoorK12
import Derived.Test.YtljfiefobnncaabGreatDoorK05
import Derived.OwnWalk

/- outlineref.Cycles, walked. -/
namespace Go.Proofs.YtljfiefobnncaabGreatDoor
open Go.RowKit

set_option maxRecDepth 4000 in
set_option maxHeartbeats 1000000 in
theorem refCycles_no (W H : Int) (s : ByteArray) (pol : Int) (draws : ByteArray) (spk : Int) (w : World) (hm : mayB W H s.data.toList pol spk = false) :
    Calls Tryz.prog 20 #[.agg #[.int .i64 W, .int .i64 H, .string s], .agg #[.int .i64 pol, .string draws, .int .i64 spk]] w fun e w' => e = .returned (.tuple #[.slice none 0 0, .int .i64 4]) ∧ Below w.heap.size w w' := by
  go_enter Tryz.func20, Tryz.ntmps20
  go_wp2_with fail
  refine (may_any W H s pol draws spk _).mono ?_
  rintro e w1 ⟨rfl, hb⟩
  rw [hm]
  have HB := hid hb
  clear hb
  go_wp2
  go_ret2
  exact ⟨rfl, Below.trans (b := _) (by go_grown) (HB.out.mono (by simp; omega))⟩

def RefOut (W H : Nat) (s : ByteArray) (pol : Nat) (draws : ByteArray) (w : World) (vl : Value) (w' : World) : Prop :=
  ∃ L : List (Value × (Qm.Sd × Nat)), Qm.Res (fB W H s pol draws) (bB W H s) Qm.key (L.map (·.2)) ∧ Seen (fB W H s pol draws) w.heap.size vl L w' ∧ Below w.heap.size w w'

theorem nodup_getD {SL : List Qm.Sd} (h : SL.Nodup) {i j : Nat} (h1 : i < SL.length) (h2 : j < SL.length) (e : SL.getD i (0, 0, 0) = SL.getD j (0, 0, 0)) : i = j := by
  rw [List.getD_eq_getElem?_getD, List.getD_eq_getElem?_getD, List.getElem?_eq_getElem h1, List.getElem?_eq_getElem h2] at e
  simp only [Option.getD_some] at e
  have p := List.pairwise_iff_getElem.1 h
  rcases Nat.lt_trichotomy i j with h3 | h3 | h3
  · exact absurd e (p i j h1 h2 h3)
  · exact h3
  · exact absurd e.symm (p j i h2 h1 h3)
theorem Seen.mono {f : Qm.Sd → Qm.Sd} {gg g' : Nat} {vl : Value} {L : List (Value × (Qm.Sd × Nat))} {w : World} (h : Seen f gg vl L w) (hg : g' ≤ gg) : Seen f g' vl L w := by
  refine ⟨?_, fun p hp => ?_⟩
  · obtain ⟨ao, cap, e, h1⟩ := h.row
    refine ⟨ao, cap, e, h1.imp id ?_⟩
    rintro ⟨gl, e2, h2, h3⟩
    exact ⟨gl, e2, by omega, h3⟩
  · obtain ⟨g, cap, e, h1, h2, h3, h4⟩ := h.pts p hp
    exact ⟨g, cap, e, h1, h2, by omega, h4⟩
theorem sdsV_at (l : List Qm.Sd) : ∀ j, j < l.length → (sdsV l)[j * 4]? = some (.int .i64 (l.getD j (0, 0, 0)).1) ∧ (sdsV l)[j * 4 + 1]? = some (.int .i64 (l.getD j (0, 0, 0)).2.1) ∧ (sdsV l)[j * 4 + 2]? = some (.int .i64 (Qm.en (l.getD j (0, 0, 0))).1) ∧ (sdsV l)[j * 4 + 3]? = some (.int .i64 (Qm.en (l.getD j (0, 0, 0))).2) := by
  induction l with
  | nil => intro j hj; simp at hj
  | cons p l ih =>
    intro j hj
    cases j with
    | zero => simp [sdsV, sdV]
    | succ j =>
      have := ih j (by simpa using hj)
      have e : sdsV (p :: l) = .int .i64 p.1 :: .int .i64 p.2.1 :: .int .i64 (Qm.en p).1 :: .int .i64 (Qm.en p).2 :: sdsV l := by simp [sdsV, sdV]
      rw [e, show (j + 1) * 4 = j * 4 + 1 + 1 + 1 + 1 from by omega, show j * 4 + 1 + 1 + 1 + 1 + 1 = (j * 4 + 1) + 1 + 1 + 1 + 1 from by omega, show j * 4 + 1 + 1 + 1 + 1 + 2 = (j * 4 + 2) + 1 + 1 + 1 + 1 from by omega, show j * 4 + 1 + 1 + 1 + 1 + 3 = (j * 4 + 3) + 1 + 1 + 1 + 1 from by omega]
      simpa using this
theorem own_sds {w : World} {b : Nat} {t : TypeId} {v : Value} {l : List Qm.Sd} {n : Nat} (h : w.ownsRow b t 4 v n (sdsV l)) (hn : 0 < n) : ∃ g cap, v = .slice (some ⟨g, 0, none⟩) n cap ∧ b ≤ g ∧ SdsAt g l w := by
  rcases h.2 with ⟨_, h0⟩ | ⟨g, cap, cur, rfl, hb, hg, _, _, _, _⟩
  · omega
  · refine ⟨g, cap, rfl, hb, (Array.getElem?_eq_some_iff.1 hg).1, fun j hj => ?_⟩
    have c := fun j u hu => h.cells (g := g) rfl j u hu
    have p := sdsV_at l j hj
    have a1 := c _ _ p.1
    have a2 := c _ _ p.2.1
    have a3 := c _ _ p.2.2.1
    have a4 := c _ _ p.2.2.2
    rw [add_zero_at] at a1 a2 a3 a4
    exact ⟨a1, a2, a3, a4⟩
theorem Seen.ents {W H : Nat} {s : ByteArray} {pol : Nat} {draws : ByteArray} (hw : W ≤ 32) (hh : H ≤ 32) {gg : Nat} {vl : Value} {L : List (Value × (Qm.Sd × Nat))} {w : World} (h : Seen (fB W H s pol draws) gg vl L w) (hc : ∀ p ∈ L, Qm.Canon (fB W H s pol draws) (bB W H s) Qm.key p.2) :
    ∃ ao cap, vl = .slice ao L.length cap ∧ (L.length = 0 ∨ ∃ g, ao = some ⟨g, 0, none⟩ ∧ EntsAt g (L.map (entOf (fB W H s pol draws))) w) := by
  obtain ⟨ao, cap, e, h1⟩ := h.row
  refine ⟨ao, cap, e, h1.imp id ?_⟩
  rintro ⟨gl, e2, _, h3, h4⟩
  refine ⟨gl, e2, h3, fun j e0 hj => ?_, fun e he => ?_⟩
  · have a := entV_at (L.map (entOf (fB W H s pol draws))) e0 j hj
    rw [entV_map] at a
    exact ⟨h4 _ _ a.1, h4 _ _ a.2⟩
  · obtain ⟨p, hp, rfl⟩ := List.mem_map.1 he
    obtain ⟨g, cap, e, h1, h2, _, h4, h5⟩ := h.pts p hp
    have a := h5 0 (by rw [Qm.ptsOf_len]; exact h2)
    rw [ptsOf_getD _ _ _ h2] at a
    have sm := small_pts hw hh (hc p hp).1 (Qm.fromP p.2.1) (List.mem_map.2 ⟨0, by simpa using h2, rfl⟩)
    exact ⟨⟨g, p.2.2, cap, e, h2, h4, by have := a.1; rw [Nat.zero_mul] at this; exact this, by have := a.2; rw [Nat.zero_mul, Nat.zero_add] at this; exact this⟩, sm.1, sm.2.1⟩
theorem RC.zero {W H : Nat} {s : ByteArray} {pol : Nat} {draws : ByteArray} {spk : Int} {gg gl : Nat} {SL : List Qm.Sd} {w : World} {i m k : Nat} {L : List (Value × (Qm.Sd × Nat))} {G G' : Nat → Bool} {v vo : Value} {wi wr : World} (h : RC W H s pol draws spk gg gl SL w i L G vo wi) (hi : i < SL.length) (hr : RI W H s pol draws gg SL (L.map (·.2)) (SL.getD i (0, 0, 0)) wi m k G' v wr) (hm : m = 0) (hG : G' k = true) (hnd : ∀ i j, i < SL.length → j < SL.length → SL.getD i (0, 0, 0) = SL.getD j (0, 0, 0) → i = j) : RC W H s pol draws spk gg gl SL w (i + 1) L G' vo wr := by
  subst hm
  have hk : k = i := hnd k i hr.lt hi hr.here
  subst hk
  have eq : ∀ j, j < SL.length → (G' j = true ↔ G j = true) := fun j hj => by
    rw [hr.rep j hj, h.rep j hj]
    exact ⟨fun h => h.imp id (fun ⟨_, b, _⟩ => by omega), fun h => h.imp id (fun ⟨_, b, _⟩ => by omega)⟩
  refine ⟨h.canon, h.sorted, fun j hj => (eq j hj).trans (h.rep j hj), fun j hj => ?_, hr.gone, fun h0 => (h.sds h0).gb hr.grown h.lt.2, h.box.gb hr.grown h.lt.1, h.lt, h.seen.on hr.grown, by have := h.few; omega⟩
  rcases Nat.lt_or_ge j k with h1 | h1
  · exact (eq j (by omega)).2 (h.past j h1)
  · obtain rfl : j = k := by omega
    exact hG

set_option maxRecDepth 4000 in
set_option maxHeartbeats 1000000 in
theorem refCycles_yes (W H : Nat) (s : ByteArray) (pol : Nat) (draws : ByteArray) (spk : Int) (w : World) (hm : mayB W H s.data.toList pol spk = true) (hw1 : 1 ≤ W) (hw2 : W ≤ 32) (hh2 : H ≤ 32) (hl : s.size = W * H) (hp : pol ≤ 3) :
    Calls Tryz.prog 20 #[.agg #[.int .i64 W, .int .i64 H, .string s], .agg #[.int .i64 pol, .string draws, .int .i64 spk]] w fun e w' => ∃ vl, e = .returned (.tuple #[vl, .int .i64 0]) ∧ RefOut W H s pol draws w vl w' := by
  obtain ⟨i0, hi, hz0, hz1, hz2⟩ := info_parts infoPoint
  obtain ⟨ib, hib, hzb0, hzb1, hzb2⟩ := info_parts infoBool
  have HL := hid hl
  clear hl
  go_enter Tryz.func20, Tryz.ntmps20
  go_wp2_with fail
  refine (may_any W H s pol draws spk _).mono ?_
  rintro e w1 ⟨rfl, hb⟩
  rw [hm]
  have B1 := hid (show Bb w.heap.size W H s pol draws spk w w1 from Bb.on ⟨by simp, by simp, by simp, by simp [go_sem], by simp [go_sem], by simp [go_sem], by go_grown, by simp⟩ hb)
  clear hb
  obtain ⟨c0, c1, c2, c3, c4, c5, -, hz⟩ := B1.out
  go_wp2_with fail
  refine (refSides_any W H s _ hw1 hw2 hh2 HL.out).mono ?_
  rintro e w2 ⟨vs, rfl, os, bs⟩
  obtain ⟨SL, hSL⟩ : ∃ SL, SL = Qm.sidesTo (Pm.blackB W H s.data.toList) W (W * H) := ⟨_, rfl⟩
  rw [← hSL] at os
  have B2 := hid (B1.out.on bs)
  have zs := bs.size
  have len := Qm.len_sidesTo (Pm.blackB W H s.data.toList) W (W * H)
  rw [← hSL] at len
  have area : W * H ≤ 1024 := Nat.mul_le_mul hw2 hh2
  have len4 : SL.length ≤ 4096 := by omega
  have ALL := hid (fun t => show t ∈ SL ↔ Qm.isS (Pm.blackB W H s.data.toList) t = true from hSL ▸ Qm.all_sidesTo (Qm.pic_of W H s.data.toList hw2 hh2) t)
  have ND := hid (show SL.Nodup by rw [hSL]; exact Qm.nodup_sidesTo _ _ _)
  have OS := hid os
  obtain ⟨aos, caps, rfl, hcaps⟩ := own_cap os
  clear os bs hSL len area c0 c1 c2 c3 c4 c5
  obtain ⟨n, hn⟩ : ∃ n, n = SL.length := ⟨_, rfl⟩
  rw [← hn] at len4 hcaps ⊢
  have HN := hid hn
  clear hn
  go_wp2_with (first
    | (at_make; refine wpList_make_full _ rfl _ _ 82 rfl w2.heap.size 4 ib (.bool false) 1 Tryz.underlying82 hib hzb0 hzb1 .i64 .i64 _ _ n rfl rfl rfl rfl (by rw [hzb2]; omega) (by unfold maxLen; omega) (Nat.le_refl _) ?_))
  intro w3 o3 g3
  have g3' := hid g3
  have b3 : Below w2.heap.size w2 w3 := ⟨g3.os, g3.tape, g3.output, g3.size, fun k hk => g3.block k hk (by simp)⟩
  have B3 := hid (B2.out.on b3)
  have z3 : w2.heap.size < w3.heap.size := by have := (o3.lt w2.heap.size rfl).2; exact this
  obtain ⟨gg, hgg⟩ : ∃ gg, gg = w2.heap.size := ⟨_, rfl⟩
  rw [← hgg] at o3 z3 ⊢
  have GA : GoneAt gg SL.length (fun _ => false) w3 := by
    refine ⟨z3, fun j hj => ⟨?_, ?_⟩⟩
    · have := o3.cells (g := gg) rfl j (.bool false) (by
        rw [toList_madeCells_one]; have := HN.out; simp [List.getElem?_replicate]; omega)
      rwa [add_zero_at] at this
    · rcases o3.2 with ⟨h1, _⟩ | ⟨g, cap, cur, h1, _, h2, _⟩
      · cases h1
      · injection h1 with h1 _ _; injection h1 with h1; injection h1 with h1 _ _
        subst h1
        simp [World.frozen?, h2]
  have OL := hid (show ∀ k, (Value.slice aos SL.length caps).ownBlock = some k → k < gg from fun k hk => by rw [hgg]; exact (OS.out.lt k hk).2)
  have gl2 : w.heap.size + 1 < gg := by rw [hgg]; omega
  have nd : ∀ i j, i < SL.length → j < SL.length → SL.getD i (0, 0, 0) = SL.getD j (0, 0, 0) → i = j := fun i j h1 h2 e => by
    exact nodup_getD ND.out h1 h2 e
  have HND := hid nd
  have HALL := hid (show ∀ j, j < SL.length → Qm.isS (Pm.blackB W H s.data.toList) (SL.getD j (0, 0, 0)) = true from fun j hj => (ALL.out _).1 (by rw [List.getD_eq_getElem?_getD, List.getElem?_eq_getElem hj]; exact List.getElem_mem hj))
  have FIND := hid (show ∀ t, Qm.isS (Pm.blackB W H s.data.toList) t = true → ∃ j, j < SL.length ∧ SL.getD j (0, 0, 0) = t from fun t ht => by
    obtain ⟨j, hj, e⟩ := List.mem_iff_getElem.1 ((ALL.out t).2 ht)
    exact ⟨j, hj, by rw [List.getD_eq_getElem?_getD, List.getElem?_eq_getElem hj]; exact e⟩)
  have mk : ∀ gl, gl < gg → (0 < SL.length → SdsAt gl SL w3) → RC W H s pol draws spk gg gl SL w 0 [] (fun _ => false) (.slice none 0 0) w3 := fun gl h1 h2 =>
    ⟨fun p hp => by simp at hp, by simp, fun j hj => by simp [Qm.Tk], fun j hj => by omega, GA, h2, B3.out, ⟨gl2, h1⟩, Seen.nil _ _ _, Nat.le_refl _⟩
  have MK := hid mk
  have OS3 := hid (own_below OS.out b3)
  have bw3 := hid (show Below w.heap.size w w3 from B3.out.2.2.2.2.2.2.1)
  clear mk nd o3 g3 g3' b3 GA hgg B2 B1 OS ND ALL hz z3 zs
  by_cases h0 : n = 0
  · subst h0
    have R0 := hid (MK.out 0 (by omega) (fun h => by have := HN.out; omega))
    clear MK
    go_wp2
    go_loopw [9, 10] (fun o iv wr => o = .slice none 0 0 ∧ iv = .int .i64 0 ∧ Hid (wr = w3)) (fun _ _ _ => 0)
    case atStart => exact ⟨rfl, rfl, rfl⟩
    case round =>
      obtain ⟨rfl, rfl, hw⟩ := hrel
      go_wp2
      go_ret2
      rw [hw.out]
      have R := R0.out
      rw [show (0 : Nat) = SL.length from HN.out] at R
      exact ⟨_, rfl, [], by simpa using R.res FIND.out, Seen.nil _ _ _, bw3.out⟩
  · obtain ⟨gl, capl, hv, hgl, hsd⟩ := own_sds OS3.out (by have := HN.out; omega)
    have e1 : aos = some ⟨gl, 0, none⟩ := by injection hv
    subst e1
    have gl3 : gl < gg := OL.out gl rfl
    have R0 := hid (MK.out gl gl3 (fun _ => hsd))
    clear MK hv hsd OS3
    go_wp2
    go_loopw [9, 10] (fun vo iv wr => ∃ (i : Nat) (L : List (Value × (Qm.Sd × Nat))) (G : Nat → Bool), i ≤ n ∧ iv = .int .i64 i ∧ Hid (RC W H s pol draws spk gg gl SL w i L G vo wr)) (fun _ i _ => n - (intOf i).toNat)
    case atStart => exact ⟨0, [], _, by omega, rfl, R0⟩
    case round =>
      clear R0
      obtain ⟨i, L, G, hin, rfl, h⟩ := hrel
      by_cases hlt : i < n
      · have hiS : i < SL.length := by have := HN.out; omega
        obtain ⟨wo, rfl⟩ : ∃ wo, wo = wr := ⟨_, rfl⟩
        obtain ⟨sI, hsI⟩ : ∃ t, t = SL.getD i (0, 0, 0) := ⟨_, rfl⟩
        have I0 := RI.start h.out hiS
        rw [← hsI] at I0
        replace I0 := hid I0
        have HSI := hid hsI
        clear hsI
        go_wp2
        go_loopw [11, 12] (fun v kv wx => ∃ (m k : Nat) (G' : Nat → Bool), kv = .int .i64 k ∧ Hid (RI W H s pol draws gg SL (L.map (·.2)) sI wo m k G' v wx)) (fun _ _ wx => untG gg n wx)
        case atStart => exact ⟨0, i, G, rfl, I0⟩
        case round =>
          clear I0
          obtain ⟨m, k, G', rfl, hr⟩ := hrel
          have hkl := hr.out.lt
          have hkn : k < n := by have := HN.out; omega
          have k0' : (0 : Int) ≤ (k : Nat) := by omega
          have k1' : ((k : Nat) : Int) < (n : Nat) := by omega
          obtain ⟨gc, gf⟩ := hr.out.gone.2 k hkl
          obtain ⟨s0, s1, s2, s3⟩ := ((h.out.sds (by omega)).gb hr.out.grown h.out.lt.2).2 k hkl
          obtain ⟨ao, cap, rfl, hcap⟩ := own_cap hr.out.own
          have few := hr.out.few
          have hgz := h.out.gone.1
          have zx := hr.out.grown.size
          cases hG : G' k
          · rw [hG] at gc
            obtain ⟨kf, hkf, ef⟩ := FIND.out _ (Qm.nx_isS (jn := Qm.jnB W H s.data.toList pol draws.data.toList) (HALL.out k hkl))
            have HKF := hid ef
            clear ef
            obtain ⟨⟨xk, yk, dk⟩, hSk⟩ : ∃ t, t = SL.getD k (0, 0, 0) := ⟨_, rfl⟩
            rw [← hSk] at s0 s1
            dsimp only at s0 s1
            have HSK := hid hSk
            clear hSk s2 s3
            have gy : wr.grownBy (wr.setCell ⟨gg, k, none⟩ (.bool true)) (some gg) := set_grown (Below.refl _ _) ⟨gg, k, none⟩
            have ne1 : gg ≠ gl := by omega
            have ne2 : gl ≠ gg := by omega
            have y0 : (wr.setCell ⟨gg, k, none⟩ (.bool true)).cell? ⟨gl, k * 4, none⟩ = some (.int .i64 xk) := (World.cell?_of_block (a := ⟨gl, k * 4, none⟩) (gy.block gl (by omega) (by simp; omega))).trans s0
            have y1 : (wr.setCell ⟨gg, k, none⟩ (.bool true)).cell? ⟨gl, k * 4 + 1, none⟩ = some (.int .i64 yk) := (World.cell?_of_block (a := ⟨gl, k * 4 + 1, none⟩) (gy.block gl (by omega) (by simp; omega))).trans s1
            have OY := hid (show (wr.setCell ⟨gg, k, none⟩ (.bool true)).ownsRow wo.heap.size 65 2 (.slice ao m cap) m _ from ownsRow_setCell_below hr.out.own hgz _)
            have GY := hid gy
            have BY := hid ((h.out.box.gb hr.out.grown h.out.lt.1).gb gy h.out.lt.1)
            have SY := hid (((h.out.sds (by omega)).gb hr.out.grown h.out.lt.2).gb gy h.out.lt.2)
            clear gy
            have n1 : m + 1 ≤ maxLen := by unfold maxLen; have := HN.out; omega
            have n2 : (m + 1) * 16 ≤ 140737488355328 := by have := HN.out; omega
            have n3 : wo.heap.size ≤ ((wr.setCell ⟨gg, k, none⟩ (.bool true)).alloc (.cells #[.int .i64 xk, .int .i64 yk] 65)).heap.size := by simp; omega
            go_wp2_with (first
              | (at_builtin; refine wpList_append_own _ rfl _ _ 43 rfl wo.heap.size 65 i0 (.agg #[.int .i64 0, .int .i64 0]) 2 16 Tryz.underlying43 hi hz0 hz1 hz2 rfl (by decide) _ _ _ rfl (OY.out.alloc _) ⟨_, 0, none⟩ 1 1 [.int .i64 xk, .int .i64 yk] rfl rfl (two_at _ _ _ _ _ (by simp)) (two_oneD rfl rfl) n1 n2 n3 ?_))
            intro v' w5 o5 g5 _
            have B5 := hid (show Below wo.heap.size (wr.setCell ⟨gg, k, none⟩ (.bool true)) w5 from ((Below.refl _ _).alloc (by simp; omega) _).grown g5 n3 (fun q hq => (hr.out.own.lt q hq).1))
            have z5 := B5.out.size
            simp at z5
            have S5 := hid (SY.out.on B5.out (by omega))
            have BB5 := hid (show Bb w.heap.size W H s pol draws spk w w5 from by
              obtain ⟨d0, d1, d2, d3, d4, d5, d6, d7⟩ := BY.out
              have zz : w.heap.size + 1 < wo.heap.size := h.out.box.2.2.2.2.2.2.2
              have C : ∀ q j, q < wo.heap.size → w5.cell? ⟨q, j, none⟩ = (wr.setCell ⟨gg, k, none⟩ (.bool true)).cell? ⟨q, j, none⟩ := fun q j hq => B5.out.cell (p := ⟨q, j, none⟩) hq
              exact ⟨(C _ _ (by omega)).trans d0, (C _ _ (by omega)).trans d1, (C _ _ (by omega)).trans d2, (C _ _ zz).trans d3, (C _ _ zz).trans d4, (C _ _ zz).trans d5, d6.trans (B5.out.mono (by omega)), by omega⟩)
            have O5 := hid o5
            have G5 := hid g5
            obtain ⟨d0, d1, d2, d3, d4, d5, -, -⟩ := BB5.out
            clear o5 g5 n3 y0 y1 s0 s1 gc gf
            go_wp2_with fail
            refine (after_any W H s pol draws spk gl n caps k kf SL _ hw2 hh2 HL.out hp HN.out len4 HALL.out HND.out hkl hkf HKF.out S5.out).mono ?_
            rintro e w6 ⟨rfl, b6⟩
            have N := hid (hr.out.succ (o := .cells #[.int .i64 xk, .int .i64 yk] 65) hgz hG HND.out (by rw [← HSK.out]; exact O5.out) G5.out b6 hkf HKF.out)
            have M1 := untG_of N.out.gone
            have M0 := untG_of hr.out.gone
            have M2 := Qm.cntF_mark G' k hG SL.length hkl
            have MM := hid (show untG gg n w6 < untG gg n wr by rw [HN.out, M1, M0]; omega)
            clear b6 M1 M0 M2 d0 d1 d2 d3 d4 d5
            go_wp2
            go_roundw
            case rel => exact ⟨m + 1, kf, _, rfl, N⟩
            case measure => exact MM.out
          · rw [hG] at gc
            by_cases hm0 : 0 < m
            · have HS := hid (show bB W H s sI by rw [HSI.out]; exact HALL.out i hiS)
              have cyc := hr.out.done hw2 hh2 h.out.cyc HS.out hm0 hG
              have CYC := hid cyc
              have sm := small_pts hw2 hh2 (c := (sI, m)) cyc
              obtain ⟨gp, capp, hvp, _, hpt, hlen⟩ := own_at hr.out.own hm0
              have e1 : ao = some ⟨gp, 0, none⟩ := by injection hvp
              have e2 : cap = capp := by injection hvp
              subst e1 e2
              have PT := hid hpt
              have SM := hid sm
              have PL := hid hlen
              have m1 : m ≤ 4356 := by have := HN.out; omega
              have m0' : (0 : Int) < (m : Nat) := by omega
              obtain ⟨aov, capv, rfl, hev⟩ := (h.out.seen.on hr.out.grown).ents hw2 hh2 h.out.canon
              have HEV := hid hev
              clear hvp hpt sm cyc hlen hev s0 s1 s2 s3
              go_wp2_with fail
              refine (turned_any gp m cap _ PL.out hm0 hcap SM.out m1 _ PT.out).mono ?_
              rintro e w5 ⟨vq, kk, rfl, hkk, hmin, oq, b5⟩
              rw [ptsOf_turn _ _ _ _ hkk CYC.out.2.2.1] at oq
              have cyq := CYC.out.turn (Qm.step (Qm.pic_of W H s.data.toList hw2 hh2) (Qm.jnB W H s.data.toList pol draws.data.toList)) kk
              obtain ⟨sQ, hsQ⟩ : ∃ t, t = Qm.it (fB W H s pol draws) kk sI := ⟨_, rfl⟩
              rw [← hsQ] at oq cyq
              have HSQ := hid hsQ
              have smq := small_pts hw2 hh2 (c := (sQ, m)) cyq
              obtain ⟨gq, capq, rfl, _, hptq, hlenq⟩ := own_at oq hm0
              have OQ := hid oq
              have B5 := hid b5
              have HMIN := hid hmin
              have PQ := hid hptq
              have LQ := hid hlenq
              have SQ := hid smq
              clear oq b5 hmin hptq hlenq smq cyq hsQ
              go_wp2_with fail
              refine (refTwice_any gq m capq _ LQ.out hm0 SQ.out m1 _ PQ.out).mono ?_
              rintro e w6 ⟨rfl, b6⟩
              obtain ⟨tw, htw⟩ : ∃ tw, tw = Qm.twiceOf (Qm.ptsOf (fB W H s pol draws) (sQ, m)) := ⟨_, rfl⟩
              rw [← htw]
              have HTW := hid htw
              have B6 := hid b6
              clear b6 htw
              have B56 := hid (show Below wr.heap.size wr w6 from B5.out.trans (B6.out.mono B5.out.size))
              obtain ⟨⟨qx, qy⟩, hq⟩ : ∃ t, t = Qm.fromP sQ := ⟨_, rfl⟩
              have hd0 : HeadAt (.slice (some ⟨gq, 0, none⟩) m capq) (qx, qy) w6 := by
                have a := (PQ.out.on B6.out PQ.out.1).2 0 (by rw [← LQ.out]; exact hm0)
                rw [ptsOf_getD _ _ _ hm0] at a
                rw [hq]
                exact ⟨gq, m, capq, rfl, hm0, Nat.lt_of_lt_of_le PQ.out.1 B6.out.size, by have := a.1; rw [Nat.zero_mul] at this; exact this, by have := a.2; rw [Nat.zero_mul, Nat.zero_add] at this; exact this⟩
              have hs0 : 0 ≤ (qx, qy).1 ∧ (qx, qy).1 ≤ 32 := by
                have := SQ.out (Qm.fromP sQ) (List.mem_map.2 ⟨0, by simpa using hm0, rfl⟩)
                rw [hq]; exact ⟨this.1, this.2.1⟩
              have fewL := h.out.few
              have HSO := hid (sorted_any aov L.length capv (L.map (entOf (fB W H s pol draws))) (.slice (some ⟨gq, 0, none⟩) m capq, tw, qx, qy) w6 (by simp) (HEV.out.imp id (fun ⟨g, e, x⟩ => ⟨g, e, (x.on B5.out).on B6.out⟩)) hd0 hs0 (by omega))
              have HQ := hid hq
              clear hd0 hs0 hq
              go_wp2_with fail
              refine HSO.out.mono ?_
              rintro e w7 ⟨vl', out, rfl, hio, ol, b7⟩
              have B57 := hid (show Below wr.heap.size wr w7 from B56.out.trans (b7.mono B56.out.size))
              have hr2 := hr.out
              rw [HSI.out] at hr2
              have hm2 := HMIN.out
              rw [HSI.out] at hm2
              have oq2 := own_below (own_below OQ.out B6.out) b7
              rw [HSQ.out, HSI.out] at oq2
              have hio2 : InsOut (L.map (entOf (fB W H s pol draws))) (entOf (fB W H s pol draws) (.slice (some ⟨gq, 0, none⟩) m capq, Qm.it (fB W H s pol draws) kk (SL.getD i (0, 0, 0)), m)) out := by
                rw [HQ.out, HTW.out, HSQ.out, HSI.out] at hio
                exact hio
              obtain ⟨L', hL'⟩ := h.out.found hw2 hh2 hiS (HALL.out i hiS) hr2 hm0 hG hkk hm2 oq2 B57.out hio2 (ol.mono B56.out.size)
              have HL' := hid hL'
              clear hio ol b7 hL' hr2 hm2 oq2 hio2
              go_wp2
              go_roundw
              case rel => exact ⟨i + 1, L', G', by omega, by go_num, HL'⟩
              case measure => simp [intOf]; omega
            · have em : m = 0 := by omega
              have hr2 := hr.out
              rw [HSI.out] at hr2
              have N := hid (h.out.zero hiS hr2 em hG HND.out)
              clear hr2
              subst em
              go_wp2
              go_roundw
              case rel => exact ⟨i + 1, L, G', by omega, by go_num, N⟩
              case measure => simp [intOf]; omega
      · go_wp2
        go_ret2
        have R := h.out
        rw [show i = SL.length by have := HN.out; omega] at R
        exact ⟨_, rfl, L, R.res FIND.out, R.seen.mono (by omega), R.box.2.2.2.2.2.2.1⟩
end Go.Proofs.YtljfiefobnncaabGreatDoor

/- outlinelaw.same: two answers that show the same cycles. -/
namespace Go.Proofs.YtljfiefobnncaabGreatDoor
open Go.RowKit

theorem Seen.shown {f : Qm.Sd → Qm.Sd} {gg : Nat} {vl : Value} {L : List (Value × (Qm.Sd × Nat))} {w : World} (h : Seen f gg vl L w) : Shown f vl L w := by
  refine ⟨?_, fun p hp => ?_⟩
  · obtain ⟨ao, cap, e, h1⟩ := h.row
    refine ⟨ao, cap, e, h1.imp id ?_⟩
    rintro ⟨gl, e2, _, h3, h4⟩
    exact ⟨gl, e2, h3, h4⟩
  · obtain ⟨g, cap, e, _, h2, _, h4⟩ := h.pts p hp
    exact ⟨g, cap, e, h2, h4⟩
set_option maxRecDepth 4000 in
set_option maxHeartbeats 1000000 in
theorem same_any (f : Qm.Sd → Qm.Sd) (vl vm : Value) (La Lm : List (Value × (Qm.Sd × Nat))) (w : World) (hR : La.map (·.2) = Lm.map (·.2)) (ha : Shown f vl La w) (hb : Shown f vm Lm w) (hn1 : La.length ≤ 9223372036854775807) (hm1 : ∀ p ∈ La, p.2.2 ≤ 9223372036854775807) :
    Calls Tryz.prog 21 #[vl, vm] w fun e w' => e = .returned (.bool true) ∧ Below w.heap.size w w' := by
  have hlen : La.length = Lm.length := by have := congrArg List.length hR; simpa using this
  obtain ⟨aa, ca, rfl, hra⟩ := ha.row
  obtain ⟨ab, cb, rfl, hrb⟩ := hb.row
  obtain ⟨n, hn⟩ : ∃ n, n = La.length := ⟨_, rfl⟩
  rw [← hlen] at hrb ⊢
  rw [← hn] at hra hrb hn1 ⊢
  have HM1 := hid hm1
  clear hm1
  have HN := hid hn
  have HLEN := hid hlen
  have HRA := hid hra
  have HRB := hid hrb
  have HA := hid ha.pts
  have HB := hid hb.pts
  have HR := hid hR
  clear hn hlen hra hrb ha hb hR
  go_enter Tryz.func21, Tryz.ntmps21
  go_wp2
  go_loopw [5] (fun iv wr => ∃ i : Nat, i ≤ n ∧ iv = .int .i64 i ∧ Below w.heap.size w wr) (fun i _ => n - (intOf i).toNat)
  case atStart => exact ⟨0, by omega, rfl, Below.refl _ _⟩
  case round =>
    obtain ⟨i, hin, rfl, hbl⟩ := hrel
    have BL := hid hbl
    clear hbl
    by_cases hlt : i < n
    · obtain ⟨ga, rfl, hga, hca⟩ := HRA.out.resolve_left (by omega)
      obtain ⟨gb, rfl, hgb, hcb⟩ := HRB.out.resolve_left (by omega)
      have hia : i < La.length := by have := HN.out; omega
      have hib : i < Lm.length := by have := HN.out; have := HLEN.out; omega
      have sa := shpV_at f La i hia
      have sb := shpV_at f Lm i hib
      have e2 : La[i].2 = Lm[i].2 := by
        have := congrArg (fun l => l[i]?) HR.out
        simpa [hia, hib] using this
      obtain ⟨pa, hpa⟩ : ∃ p, p = La[i] := ⟨_, rfl⟩
      obtain ⟨pb, hpb⟩ : ∃ p, p = Lm[i] := ⟨_, rfl⟩
      obtain ⟨g1, c1, v1, n1, t1⟩ := HA.out pa (by rw [hpa]; exact List.getElem_mem hia)
      obtain ⟨g2, c2, v2, n2, t2⟩ := HB.out pb (by rw [hpb]; exact List.getElem_mem hib)
      rw [← hpa] at sa e2
      rw [← hpb] at sb e2
      rw [← e2] at sb t2 v2 n2
      obtain ⟨m, hm⟩ : ∃ m, m = pa.2.2 := ⟨_, rfl⟩
      have mb : m ≤ 9223372036854775807 := by rw [hm]; exact HM1.out pa (by rw [hpa]; exact List.getElem_mem hia)
      obtain ⟨tw, htw⟩ : ∃ tw, tw = Qm.twiceOf (Qm.ptsOf f pa.2) := ⟨_, rfl⟩
      obtain ⟨ps, hps⟩ : ∃ ps, ps = Qm.ptsOf f pa.2 := ⟨_, rfl⟩
      have lps : ps.length = m := by rw [hps, hm, Qm.ptsOf_len]
      rw [← hps] at t1 t2
      rw [v1, ← htw] at sa
      rw [v2, ← htw] at sb
      rw [← hm] at sa sb n1
      have rd : ∀ wx : World, Below w.heap.size w wx → wx.cell? ⟨ga, i * 2, none⟩ = some (.slice (some ⟨g1, 0, none⟩) m c1) ∧ wx.cell? ⟨ga, i * 2 + 1, none⟩ = some (.int .i64 tw) ∧ wx.cell? ⟨gb, i * 2, none⟩ = some (.slice (some ⟨g2, 0, none⟩) m c2) ∧ wx.cell? ⟨gb, i * 2 + 1, none⟩ = some (.int .i64 tw) := fun wx hx =>
        ⟨(hx.cell (p := ⟨ga, i * 2, none⟩) hga).trans (hca _ _ sa.1), (hx.cell (p := ⟨ga, i * 2 + 1, none⟩) hga).trans (hca _ _ sa.2), (hx.cell (p := ⟨gb, i * 2, none⟩) hgb).trans (hcb _ _ sb.1), (hx.cell (p := ⟨gb, i * 2 + 1, none⟩) hgb).trans (hcb _ _ sb.2)⟩
      have RD := hid rd
      have T1 := hid t1
      have T2 := hid t2
      have LPS := hid lps
      have i0' : (0 : Int) ≤ (i : Nat) := by omega
      have i1' : ((i : Nat) : Int) < (n : Nat) := by omega
      clear rd t1 t2 sa sb hpa hpb hm htw hps v1 v2 hca hcb e2 lps n2
      obtain ⟨r0, r1, r2, r3⟩ := RD.out _ BL.out
      go_wp2_with fail
      go_quiet (fail)
      go_wp2
      go_loopw [6] (fun kv wr => ∃ k : Nat, k ≤ m ∧ kv = .int .i64 k ∧ Below w.heap.size w wr) (fun k _ => m - (intOf k).toNat)
      case atStart => exact ⟨0, by omega, rfl, BL.out.trans ⟨rfl, rfl, rfl, Nat.le_refl _, fun _ _ => rfl⟩⟩
      case round =>
        clear r0 r1 r2 r3 BL
        obtain ⟨k, hkm, rfl, hbl⟩ := hrel
        have BL := hid hbl
        clear hbl
        obtain ⟨r0, r1, r2, r3⟩ := RD.out _ BL.out
        by_cases hk : k < m
        · obtain ⟨x0, x1⟩ := (T1.out.on BL.out T1.out.1).2 k (by have := LPS.out; omega)
          obtain ⟨y0, y1⟩ := (T2.out.on BL.out T2.out.1).2 k (by have := LPS.out; omega)
          obtain ⟨⟨px, py⟩, hpp⟩ : ∃ p, p = ps.getD k (0, 0) := ⟨_, rfl⟩
          rw [← hpp] at x0 x1 y0 y1
          dsimp only at x0 x1 y0 y1
          have k0' : (0 : Int) ≤ (k : Nat) := by omega
          have k1' : ((k : Nat) : Int) < (m : Nat) := by omega
          clear hpp
          go_wp2_with fail
          go_quiet (fail)
          go_wp2
          go_roundw
          case rel => exact ⟨k + 1, by omega, by go_num, BL.out.trans ⟨rfl, rfl, rfl, Nat.le_refl _, fun _ _ => rfl⟩⟩
          case measure => simp [intOf]; omega
        · have hk' : ((m : Nat) : Int) ≤ (k : Nat) := by omega
          go_wp2
          go_roundw
          case rel => exact ⟨i + 1, by omega, by go_num, BL.out⟩
          case measure => simp [intOf]; omega
    · have hk' : ((n : Nat) : Int) ≤ (i : Nat) := by omega
      go_wp2
      go_ret
      exact ⟨rfl, BL.out⟩
end Go.Proofs.YtljfiefobnncaabGreatDoor
