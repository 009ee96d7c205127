import Derived.Test.YtljfiefobnncaabGreatDoorK10
import Derived.Test.YtljfiefobnncaabGreatDoorK01
import Derived.Test.YtljfiefobnncaabGreatDoorK05
import Derived.Test.YtljfiefobnncaabGreatDoorK06
import Derived.Deep.Upon
import Derived.Test.YtljfiefobnncaabGreatDoorK08
import Derived.Deep.MidRow

/- outlineref.Sides. -/
namespace Go.Proofs.YtljfiefobnncaabGreatDoor
open Go.RowKit

theorem sdsV_app (a b : List Qm.Sd) : sdsV (a ++ b) = sdsV a ++ sdsV b := by simp [sdsV]

theorem sds_one (l : List Qm.Sd) : ∀ u ∈ sdsV l, u.oneCell' = true := by
  intro u hu
  simp only [sdsV, List.mem_flatMap] at hu
  obtain ⟨s, _, hs⟩ := hu
  simp only [sdV, List.mem_cons, List.not_mem_nil, or_false] at hs
  rcases hs with rfl | rfl | rfl | rfl <;> rfl

theorem pix_mul (W y x : Nat) (hx : x < W) : (y * W + x) % W = x ∧ (y * W + x) / W = y := by
  constructor
  · rw [Nat.add_comm, Nat.add_mul_mod_self_right, Nat.mod_eq_of_lt hx]
  · rw [Nat.add_comm, Nat.add_mul_div_right _ _ (by omega), Nat.div_eq_of_lt hx]; omega

set_option maxRecDepth 4000 in
set_option maxHeartbeats 2000000 in
theorem refSides_any (W H : Nat) (s : ByteArray) (w : World) (hw1 : 1 ≤ W) (hw2 : W ≤ 32) (hh2 : H ≤ 32) (hl : s.size = W * H) :
    Calls Tryz.prog 45 #[.agg #[.int .i64 W, .int .i64 H, .string s]] w fun e w' => ∃ v, e = .returned v ∧ w'.ownsRow w.heap.size 85 4 v (Qm.sidesTo (Pm.blackB W H s.data.toList) W (W * H)).length (sdsV (Qm.sidesTo (Pm.blackB W H s.data.toList) W (W * H))) ∧ Below w.heap.size w w' := by
  obtain ⟨i0, hi, hz0, hz1, hz2⟩ := info_parts infoSide
  have HL := hid hl
  clear hl
  go_enter Tryz.func45, Tryz.ntmps45
  go_wp2
  go_loopw [3, 4] (fun v yv wr => ∃ (y : Nat), y ≤ H ∧ yv = .int .i64 y ∧ Hid (wr.ownsRow (w.heap.size + 1) 85 4 v (Qm.sidesTo (Pm.blackB W H s.data.toList) W (y * W)).length (sdsV (Qm.sidesTo (Pm.blackB W H s.data.toList) W (y * W)))) ∧ Inb w.heap.size W H s w wr) (fun _ y _ => H - (intOf y).toNat)
  case atStart => exact ⟨0, by omega, rfl, hid (by simpa [Qm.sidesTo, sdsV] using World.ownsRow_nil _ _ _ _), ⟨by simp, by simp, by simp, by go_grown, by simp⟩⟩
  case round =>
    obtain ⟨y, hy, rfl, ho, hI⟩ := hrel
    have HI := hid hI
    obtain ⟨c0, c1, c2, -, hz⟩ := hI
    by_cases hlt : y < H
    · go_wp2
      go_loopw [3, 5] (fun v xv wr => ∃ (x : Nat), x ≤ W ∧ xv = .int .i64 x ∧ Hid (wr.ownsRow (w.heap.size + 1) 85 4 v (Qm.sidesTo (Pm.blackB W H s.data.toList) W (y * W + x)).length (sdsV (Qm.sidesTo (Pm.blackB W H s.data.toList) W (y * W + x)))) ∧ Inb w.heap.size W H s w wr) (fun _ x _ => W - (intOf x).toNat)
      case atStart => exact ⟨0, by omega, rfl, by simpa using ho, HI.out⟩
      case round =>
        clear c0 c1 c2 hz ho HI
        obtain ⟨x, hx, rfl, ho, hI⟩ := hrel
        have HI := hid hI
        obtain ⟨c0, c1, c2, -, hz⟩ := hI
        by_cases hxt : x < W
        · have pm := pix_mul W y x hxt
          have bnd : y * W + x < 1024 := by
            have : (y + 1) * W ≤ 32 * 32 := Nat.mul_le_mul (by omega) hw2
            rw [Nat.add_mul] at this; omega
          have hlen := Qm.len_sidesTo (Pm.blackB W H s.data.toList) W (y * W + x)
          have PX : Hid (Qm.pixL (Pm.blackB W H s.data.toList) W (y * W + x) = if Pm.blackB W H s.data.toList (x : Nat) (y : Nat) then Qm.arL (Pm.blackB W H s.data.toList) (x : Nat) (y : Nat) else []) := by
            show _ = _
            unfold Qm.pixL
            rw [pm.1, pm.2]
          obtain ⟨m, hm⟩ : ∃ m, m = y * W + x := ⟨_, rfl⟩
          rw [← hm] at ho hlen PX bnd
          have HM := hid hm
          have ST : Hid (Qm.sidesTo (Pm.blackB W H s.data.toList) W (m + 1) = Qm.sidesTo (Pm.blackB W H s.data.toList) W m ++ Qm.pixL (Pm.blackB W H s.data.toList) W m) := rfl
          clear hm pm
          cases hq : Pm.blackB W H s.data.toList (x : Nat) (y : Nat)
          · go_wp2_with (go_at_call 42; refine (black_any W H s _ _ _ hw2 hh2 HL.out).mono ?_; rintro e w' ⟨rfl, rfl⟩; rw [hq])
            go_roundw
            case rel => exact ⟨x + 1, by omega, by go_num, hid (by rw [← Nat.add_assoc, ← HM.out, ST.out, PX.out, hq]; simpa using own_below ho.out ((Below.refl _ _).alloc (Nat.le_refl _) _)), HI.out.alloc _⟩
            case measure => simp [intOf]; omega
          · go_wp2_with (go_at_call 42; refine (black_any W H s _ _ _ hw2 hh2 HL.out).mono ?_; rintro e w' ⟨rfl, rfl⟩; rw [hq])
            refine (around_any W H s x y (by omega) (by omega) _ hw2 hh2 HL.out).mono ?_
            rintro e w1 ⟨va, rfl, oa, ba⟩
            have al := Qm.len_arL (Pm.blackB W H s.data.toList) x y
            have SO := hid (sds_one (Qm.arL (Pm.blackB W H s.data.toList) x y))
            have O1 := hid (own_below (ho.out.alloc _) ba)
            have I1 := hid ((HI.out.alloc _).on ba)
            have BA := hid ba
            have z1 := ba.size
            simp at z1
            obtain ⟨n, hn⟩ : ∃ n, n = (Qm.arL (Pm.blackB W H s.data.toList) x y).length := ⟨_, rfl⟩
            rw [← hn] at oa al
            have HN := hid hn
            clear ba hn c0 c1 c2
            by_cases h0 : 0 < n
            · obtain ⟨ga, ca, rfl, hcells⟩ := own_src oa h0
              have OA := hid oa
              have HC := hid hcells
              have n1 : (Qm.sidesTo (Pm.blackB W H s.data.toList) W m).length + n ≤ maxLen := by unfold maxLen; omega
              have n2 : ((Qm.sidesTo (Pm.blackB W H s.data.toList) W m).length + n) * 32 ≤ 140737488355328 := by omega
              have n3 : w.heap.size + 1 ≤ w1.heap.size := by omega
              have nl := hid (show (sdsV (Qm.arL (Pm.blackB W H s.data.toList) x y)).length = n * 4 by rw [sdsV_len, HN.out])
              clear oa hcells
              go_wp2_with (first
                | (at_builtin; refine wpList_append_own _ rfl _ _ 80 rfl (w.heap.size + 1) 85 i0 (.agg #[.int .i64 0, .int .i64 0, .int .i64 0, .int .i64 0]) 4 32 Tryz.underlying80 hi hz0 hz1 hz2 rfl (by decide) _ _ _ rfl O1.out ⟨ga, 0, none⟩ n ca (sdsV (Qm.arL (Pm.blackB W H s.data.toList) x y)) rfl nl.out HC.out SO.out n1 n2 n3 ?_))
              intro v' w2 o2 g2 _
              have B2 : Below (w.heap.size + 1) w1 w2 := (Below.refl _ _).grown g2 n3 (fun k hk => (O1.out.lt k hk).1)
              have I2 := hid (show Inb w.heap.size W H s w w2 from by
                obtain ⟨d0, d1, d2, d3, d4⟩ := I1.out
                exact ⟨(B2.cell (p := ⟨w.heap.size, 0, none⟩) (by simp)).trans d0, (B2.cell (p := ⟨w.heap.size, 1, none⟩) (by simp)).trans d1, (B2.cell (p := ⟨w.heap.size, 2, none⟩) (by simp)).trans d2, d3.trans (B2.mono (by omega)), Nat.lt_of_lt_of_le d4 B2.size⟩)
              have O2 := hid o2
              clear o2 g2 B2
              go_wp2
              go_roundw
              case rel => exact ⟨x + 1, by omega, by go_num, hid (by rw [← Nat.add_assoc, ← HM.out, ST.out, PX.out, hq]; simpa only [if_true, List.length_append, sdsV_app, ← HN.out] using O2.out), I2.out⟩
              case measure => simp [intOf]; omega
            · have e0 : n = 0 := by omega
              subst e0
              have SR := hid (own_src0 (P := Tryz.prog) (ts := 80) oa Tryz.underlying80 i0.size)
              obtain ⟨ao, cap, rfl, hcap⟩ := own_cap O1.out
              have E0 : Hid (Qm.arL (Pm.blackB W H s.data.toList) x y = []) := List.length_eq_zero_iff.1 HN.out.symm
              clear oa
              go_wp2_with (first
                | (at_builtin; refine wpList_append_nothing rfl _ _ 80 rfl 85 i0 Tryz.underlying80 hi ao _ cap hcap va rfl rfl SR.out ?_))
              go_roundw
              case rel => exact ⟨x + 1, by omega, by go_num, by rw [← Nat.add_assoc, ← HM.out, ST.out, PX.out, hq, if_pos rfl, E0.out, List.append_nil]; exact O1.out, I1.out⟩
              case measure => simp [intOf]; omega
        · have e1 : x = W := by omega
          have E : Hid (y * W + x = (y + 1) * W) := by show _ = _; rw [e1, Nat.add_mul]; omega
          go_wp2
          go_roundw
          case rel => exact ⟨y + 1, by omega, by go_num, by rw [← E.out]; exact ho.out, HI.out⟩
          case measure => simp [intOf]; omega
    · have e1 : y = H := by omega
      have E := hid (show W * H = y * W by rw [e1, Nat.mul_comm])
      go_wp2
      go_ret
      exact ⟨_, rfl, by rw [E.out]; exact ho.out.mono (base' := w.heap.size) (by omega), HI.out.2.2.2.1⟩
end Go.Proofs.YtljfiefobnncaabGreatDoor

/- Which of the sides that begin where another ends is the next: by their bends. Nothing of the program stands here. -/
namespace Go.Proofs.YtljfiefobnncaabGreatDoor
theorem best_bend : ∀ (j nw ne se sw : Bool) (d e : Fin 4), Qm.inQ nw ne se sw d = true → Qm.outQ nw ne se sw e = true → e.val ≠ Qm.nextD j nw ne se sw d →
    (j = true → bendD d e < bendD d (Qm.nextD j nw ne se sw d)) ∧ (j = false → bendD d (Qm.nextD j nw ne se sw d) < bendD d e) := by decide

/-- Does the later one win? -/
def winB (j : Bool) (old now : Int) : Bool := (j && decide (old < now)) || (!j && decide (now < old))

theorem win_next {bl jn : Int → Int → Bool} {s t : Qm.Sd} (hs : Qm.isS bl s = true) (ht : Qm.isS bl t = true) (hp : Qm.fromP t = Qm.en s) (hne : t ≠ Qm.nx bl jn s) :
    winB (jn (Qm.en s).1 (Qm.en s).2) (bendD s.2.2 t.2.2) (bendD s.2.2 (Qm.nx bl jn s).2.2) = true ∧ winB (jn (Qm.en s).1 (Qm.en s).2) (bendD s.2.2 (Qm.nx bl jn s).2.2) (bendD s.2.2 t.2.2) = false := by
  have h1 := Qm.isS_lt hs
  have h2 := Qm.isS_lt ht
  have hi := hs
  rw [Qm.isS_in] at hi
  have e1 : t.1 = (Qm.en s).1 := congrArg Prod.fst hp
  have e2 : t.2.1 = (Qm.en s).2 := congrArg Prod.snd hp
  have ho := ht
  unfold Qm.isS at ho
  rw [e1, e2] at ho
  have hd : t.2.2 ≠ (Qm.nx bl jn s).2.2 := fun e => hne (Prod.ext e1 (Prod.ext e2 e))
  have b := best_bend (jn (Qm.en s).1 (Qm.en s).2) _ _ _ _ ⟨s.2.2, h1⟩ ⟨t.2.2, h2⟩ hi ho hd
  have bb : (jn (Qm.en s).1 (Qm.en s).2 = true → bendD s.2.2 t.2.2 < bendD s.2.2 (Qm.nx bl jn s).2.2) ∧ (jn (Qm.en s).1 (Qm.en s).2 = false → bendD s.2.2 (Qm.nx bl jn s).2.2 < bendD s.2.2 t.2.2) := b
  generalize bendD s.2.2 t.2.2 = u at *
  generalize bendD s.2.2 (Qm.nx bl jn s).2.2 = v at *
  unfold winB
  cases hj : jn (Qm.en s).1 (Qm.en s).2
  · have := bb.2 hj
    simp; omega
  · have := bb.1 hj
    simp; omega

/-- What is known of the best of the first k: none yet, or one that begins where s ends; the next side itself once it has been seen. -/
def Best (SL : List Qm.Sd) (p : Int × Int) (kf k : Nat) (bi : Int) : Prop :=
  (bi = -1 ∧ k ≤ kf) ∨ ∃ b : Nat, bi = b ∧ b < k ∧ Qm.fromP (SL.getD b (0, 0, 0)) = p ∧ (kf < k → b = kf)

theorem Best.skip {SL : List Qm.Sd} {p : Int × Int} {kf k : Nat} {bi : Int} (h : Best SL p kf k bi) (hkf : Qm.fromP (SL.getD kf (0, 0, 0)) = p) (hn : Qm.fromP (SL.getD k (0, 0, 0)) ≠ p) : Best SL p kf (k + 1) bi := by
  have hne : k ≠ kf := fun e => hn (by rw [e]; exact hkf)
  rcases h with ⟨h1, h2⟩ | ⟨b, h1, h2, h3, h4⟩
  · exact .inl ⟨h1, by omega⟩
  · exact .inr ⟨b, h1, by omega, h3, fun _ => h4 (by omega)⟩
theorem Best.first {SL : List Qm.Sd} {p : Int × Int} {kf k : Nat} {bi : Int} (h : Best SL p kf k bi) (hb : bi < 0) (hk : Qm.fromP (SL.getD k (0, 0, 0)) = p) : Best SL p kf (k + 1) k := by
  rcases h with ⟨_, h2⟩ | ⟨b, h1, _⟩
  · exact .inr ⟨k, rfl, by omega, hk, fun _ => by omega⟩
  · omega
theorem Best.more {bl jn : Int → Int → Bool} {SL : List Qm.Sd} {s : Qm.Sd} {kf k b : Nat} (hall : ∀ j, j < SL.length → Qm.isS bl (SL.getD j (0, 0, 0)) = true) (hnd : ∀ i j, i < SL.length → j < SL.length → SL.getD i (0, 0, 0) = SL.getD j (0, 0, 0) → i = j)
    (hs : Qm.isS bl s = true) (hkf : kf < SL.length) (ef : SL.getD kf (0, 0, 0) = Qm.nx bl jn s) (hk : k < SL.length) (h : Best SL (Qm.en s) kf k b) (hp : Qm.fromP (SL.getD k (0, 0, 0)) = Qm.en s) :
    b < k ∧ ∀ r, winB (jn (Qm.en s).1 (Qm.en s).2) (bendD s.2.2 (SL.getD b (0, 0, 0)).2.2) (bendD s.2.2 (SL.getD k (0, 0, 0)).2.2) = r → Best SL (Qm.en s) kf (k + 1) (if r then k else b) := by
  rcases h with ⟨h1, h2⟩ | ⟨b', h1, h2, h3, h4⟩
  · omega
  · have hb' : b' = b := by omega
    subst hb'
    refine ⟨h2, fun r hr => ?_⟩
    rcases Nat.lt_trichotomy k kf with hlt | heq | hgt
    · cases r
      · exact .inr ⟨b', rfl, by omega, h3, fun _ => by omega⟩
      · exact .inr ⟨k, rfl, by omega, hp, fun _ => by omega⟩
    · subst heq
      have hne : SL.getD b' (0, 0, 0) ≠ Qm.nx bl jn s := fun e => by
        have := hnd b' k (by omega) hk (by rw [e, ef]); omega
      have := (win_next (jn := jn) hs (hall b' (by omega)) h3 hne).1
      rw [ef, this] at hr
      subst hr
      exact .inr ⟨k, rfl, by omega, hp, fun _ => rfl⟩
    · have hbk := h4 hgt
      subst hbk
      have hne : SL.getD k (0, 0, 0) ≠ Qm.nx bl jn s := fun e => by
        have := hnd k b' hk hkf (by rw [e, ef]); omega
      have := (win_next (jn := jn) hs (hall k hk) hp hne).2
      rw [ef, this] at hr
      subst hr
      exact .inr ⟨b', rfl, by omega, h3, fun _ => rfl⟩
theorem Best.done {SL : List Qm.Sd} {p : Int × Int} {kf : Nat} {bi : Int} (h : Best SL p kf SL.length bi) (hkf : kf < SL.length) : bi = kf := by
  rcases h with ⟨_, h2⟩ | ⟨b, h1, _, _, h4⟩
  · omega
  · rw [h1, h4 hkf]
end Go.Proofs.YtljfiefobnncaabGreatDoor

/- outlineref.after. -/
namespace Go.Proofs.YtljfiefobnncaabGreatDoor
open Go.RowKit
attribute [local go_sem ↓] Go.wp_at_zero Go.wp_at_succ

/-- The sides of a row stand at block g. -/
def SdsAt (g : Nat) (l : List Qm.Sd) (w : World) : Prop := g < w.heap.size ∧ ∀ j, j < l.length → w.cell? ⟨g, j * 4, none⟩ = some (.int .i64 (l.getD j (0, 0, 0)).1) ∧ w.cell? ⟨g, j * 4 + 1, none⟩ = some (.int .i64 (l.getD j (0, 0, 0)).2.1) ∧
  w.cell? ⟨g, j * 4 + 2, none⟩ = some (.int .i64 (Qm.en (l.getD j (0, 0, 0))).1) ∧ w.cell? ⟨g, j * 4 + 3, none⟩ = some (.int .i64 (Qm.en (l.getD j (0, 0, 0))).2)
theorem SdsAt.on {g : Nat} {l : List Qm.Sd} {w w' : World} {B : Nat} (h : SdsAt g l w) (hb : Below B w w') (hg : g < B) : SdsAt g l w' :=
  ⟨Nat.lt_of_lt_of_le h.1 hb.size, fun j hj => ⟨(hb.cell (p := ⟨g, j * 4, none⟩) hg).trans (h.2 j hj).1, (hb.cell (p := ⟨g, j * 4 + 1, none⟩) hg).trans (h.2 j hj).2.1, (hb.cell (p := ⟨g, j * 4 + 2, none⟩) hg).trans (h.2 j hj).2.2.1, (hb.cell (p := ⟨g, j * 4 + 3, none⟩) hg).trans (h.2 j hj).2.2.2⟩⟩

/-- The two boxes that 'after' lays stand. -/
def Bb (B W H : Nat) (s : ByteArray) (pol : Nat) (draws : ByteArray) (spk : Int) (w wr : World) : Prop :=
  wr.cell? ⟨B, 0, none⟩ = some (.int .i64 W) ∧ wr.cell? ⟨B, 1, none⟩ = some (.int .i64 H) ∧ wr.cell? ⟨B, 2, none⟩ = some (.string s) ∧ wr.cell? ⟨B + 1, 0, none⟩ = some (.int .i64 pol) ∧ wr.cell? ⟨B + 1, 1, none⟩ = some (.string draws) ∧ wr.cell? ⟨B + 1, 2, none⟩ = some (.int .i64 spk) ∧ Below B w wr ∧ B + 1 < wr.heap.size
theorem Bb.on {B W H : Nat} {s : ByteArray} {pol : Nat} {draws : ByteArray} {spk : Int} {w wr w2 : World} (h : Bb B W H s pol draws spk w wr) (hb : Below wr.heap.size wr w2) : Bb B W H s pol draws spk w w2 := by
  obtain ⟨c0, c1, c2, c3, c4, c5, hn, hz⟩ := h
  have hz' : B < wr.heap.size := by omega
  exact ⟨(hb.cell (p := ⟨B, 0, none⟩) hz').trans c0, (hb.cell (p := ⟨B, 1, none⟩) hz').trans c1, (hb.cell (p := ⟨B, 2, none⟩) hz').trans c2, (hb.cell (p := ⟨B + 1, 0, none⟩) hz).trans c3, (hb.cell (p := ⟨B + 1, 1, none⟩) hz).trans c4, (hb.cell (p := ⟨B + 1, 2, none⟩) hz).trans c5, hn.trans (hb.mono (Nat.le_of_lt hz')), Nat.lt_of_lt_of_le hz hb.size⟩
theorem Bb.drewN {B W H : Nat} {s : ByteArray} {pol : Nat} {draws : ByteArray} {spk : Int} {w wr : World} (h : Bb B W H s pol draws spk w wr) (n : Nat) : Bb B W H s pol draws spk w (wr.drewN n) := h.on ⟨rfl, rfl, rfl, Nat.le_refl _, fun _ _ => rfl⟩

theorem Bb.drawn {B W H : Nat} {s : ByteArray} {pol : Nat} {draws : ByteArray} {spk : Int} {w wr w2 : World} (h : Bb B W H s pol draws spk w wr) (hb : Below wr.drew.heap.size wr.drew w2) : Bb B W H s pol draws spk w w2 := Bb.on (wr := wr.drew) (h.on ((Below.refl _ _).drew)) hb

theorem bend_raw (x y : Int) (d : Nat) (x' y' : Int) (d' : Nat) (ex ey ex' ey' : Int) (he : Qm.en (x, y, d) = (ex, ey)) (he' : Qm.en (x', y', d') = (ex', ey')) (hd : d < 4) (hd' : d' < 4) (w : World) :
    Calls Tryz.prog 73 #[.agg #[.int .i64 x, .int .i64 y, .int .i64 ex, .int .i64 ey], .agg #[.int .i64 x', .int .i64 y', .int .i64 ex', .int .i64 ey']] w fun e w' => e = .returned (.int .i64 (bendD d d')) ∧ Below w.heap.size w w' := by
  have := bend_any x y d x' y' d' hd hd' w
  simpa only [sdV, he, he'] using this

set_option maxRecDepth 4000 in
set_option maxHeartbeats 2000000 in
theorem after_any (W H : Nat) (s : ByteArray) (pol : Nat) (draws : ByteArray) (spk : Int) (gl n cap i kf : Nat) (SL : List Qm.Sd) (w : World) (hw2 : W ≤ 32) (hh2 : H ≤ 32) (hl : s.size = W * H) (hp : pol ≤ 3)
    (hn : n = SL.length) (hn2 : n ≤ 4096) (hall : ∀ j, j < SL.length → Qm.isS (Pm.blackB W H s.data.toList) (SL.getD j (0, 0, 0)) = true) (hnd : ∀ i j, i < SL.length → j < SL.length → SL.getD i (0, 0, 0) = SL.getD j (0, 0, 0) → i = j)
    (hi : i < SL.length) (hkf : kf < SL.length) (ef : SL.getD kf (0, 0, 0) = fB W H s pol draws (SL.getD i (0, 0, 0))) (hS : SdsAt gl SL w) :
    Calls Tryz.prog 46 #[.agg #[.int .i64 W, .int .i64 H, .string s], .agg #[.int .i64 pol, .string draws, .int .i64 spk], .slice (some ⟨gl, 0, none⟩) n cap, .int .i64 i] w fun e w' => e = .returned (.int .i64 kf) ∧ Below w.heap.size w w' := by
  have HL := hid hl
  have HN := hid hn
  have HALL := hid hall
  have HND := hid hnd
  have EF := hid ef
  have HS := hid hS
  have hgl := hS.1
  have hi' : i < n := by omega
  have hkf' : kf < n := by omega
  obtain ⟨px, py, he, hpx, hpy, -⟩ := en_nat (pol := pol) (draws := draws) hw2 hh2 (hall i hi)
  have HE := hid he
  clear hl hn hall hnd ef hS he
  go_enter Tryz.func46, Tryz.ntmps46
  go_wp2
  go_loopw [9, 10] (fun bv kv wr => ∃ (k : Nat) (bi : Int), k ≤ n ∧ kv = .int .i64 k ∧ bv = .int .i64 bi ∧ -1 ≤ bi ∧ bi < n ∧ Hid (Best SL (Qm.en (SL.getD i (0, 0, 0))) kf k bi) ∧
    Hid (Bb w.heap.size W H s pol draws spk w wr)) (fun _ k _ => n - (intOf k).toNat)
  case atStart => exact ⟨0, -1, by omega, rfl, rfl, by omega, by omega, .inl ⟨rfl, by omega⟩, ⟨by simp, by simp, by simp, by simp [go_sem], by simp [go_sem], by simp [go_sem], by go_grown, by simp⟩⟩
  case round =>
    obtain ⟨k, bi, hk, rfl, rfl, hb1, hb2, hB, hI⟩ := hrel
    by_cases hlt : k < n
    · obtain ⟨s0, s1, s2, s3⟩ := (HS.out.on hI.out.2.2.2.2.2.2.1 hgl).2 k (by have := HN.out; omega)
      obtain ⟨t0, t1, t2, t3⟩ := (HS.out.on hI.out.2.2.2.2.2.2.1 hgl).2 i (by have := HN.out; omega)
      rw [HE.out] at t2 t3
      have hk0 : (0 : Int) ≤ (k : Nat) := by omega
      have hk1 : ((k : Nat) : Int) < (n : Nat) := by omega
      have hi0 : (0 : Int) ≤ (i : Nat) := by omega
      have hi1 : ((i : Nat) : Int) < (n : Nat) := by omega
      obtain ⟨⟨xk, yk, dk⟩, hSk⟩ : ∃ t, t = SL.getD k (0, 0, 0) := ⟨_, rfl⟩
      obtain ⟨⟨xi, yi, di⟩, hSi⟩ : ∃ t, t = SL.getD i (0, 0, 0) := ⟨_, rfl⟩
      rw [← hSk] at s0 s1 s2 s3
      rw [← hSi] at t0 t1
      dsimp only at s0 s1 t0 t1
      have HSk := hid hSk
      have HSi := hid hSi
      have HP0 := hid (show Qm.fromP (SL.getD kf (0, 0, 0)) = Qm.en (SL.getD i (0, 0, 0)) by rw [EF.out]; rfl)
      clear hSk hSi
      by_cases eq : xk = px ∧ yk = py
      · obtain ⟨rfl, rfl⟩ := eq
        have HPK := hid (show Qm.fromP (SL.getD k (0, 0, 0)) = Qm.en (SL.getD i (0, 0, 0)) by rw [← HSk.out, HE.out]; rfl)
        go_wp2_with fail
        go_quiet (fail)
        by_cases bn : bi < 0
        · go_wp2
          go_roundw
          case rel => exact ⟨k + 1, k, by omega, by go_num, rfl, by omega, by omega, hB.out.first bn HPK.out, hid (hI.out.drewN _)⟩
          case measure => simp [intOf]; omega
        · obtain ⟨b, rfl⟩ : ∃ b : Nat, bi = b := ⟨bi.toNat, by omega⟩
          have M := Best.more HALL.out HND.out (HALL.out i (by have := HN.out; omega)) (by have := HN.out; omega) EF.out (by have := HN.out; omega) hB.out HPK.out
          have hbk := M.1
          have HM := hid M.2
          have I1 := hid (hI.out.drewN nq)
          have S1 := hid (HS.out.on I1.out.2.2.2.2.2.2.1 hgl)
          have ebn : ((b : Nat) : Int) < (n : Nat) := by omega
          have eb0 : (0 : Int) ≤ (b : Nat) := by omega
          obtain ⟨⟨xb, yb, db⟩, hSb⟩ : ∃ t, t = SL.getD b (0, 0, 0) := ⟨_, rfl⟩
          have HSb := hid hSb
          clear M hSb s0 s1 s2 s3 t0 t1 t2 t3 hb1 hb2 bn
          revert I1 S1
          generalize World.drewN wr nq = W0
          intro I1 S1
          have di4 := Qm.isS_lt (HALL.out i (by have := HN.out; omega))
          have dk4 := Qm.isS_lt (HALL.out k (by have := HN.out; omega))
          have db4 := Qm.isS_lt (HALL.out b (by have := HN.out; omega))
          rw [← HSi.out] at di4
          rw [← HSk.out] at dk4
          rw [← HSb.out] at db4
          dsimp only at di4 dk4 db4
          have rd : ∀ (wx : World), Bb w.heap.size W H s pol draws spk w wx → ∀ j, j < n → (wx.cell? ⟨gl, j * 4, none⟩ = some (.int .i64 (SL.getD j (0, 0, 0)).1) ∧ wx.cell? ⟨gl, j * 4 + 1, none⟩ = some (.int .i64 (SL.getD j (0, 0, 0)).2.1) ∧ wx.cell? ⟨gl, j * 4 + 2, none⟩ = some (.int .i64 (Qm.en (SL.getD j (0, 0, 0))).1) ∧ wx.cell? ⟨gl, j * 4 + 3, none⟩ = some (.int .i64 (Qm.en (SL.getD j (0, 0, 0))).2)) := fun _ hx j hj => (HS.out.on hx.2.2.2.2.2.2.1 hgl).2 j (by have := HN.out; omega)
          have ri : ∀ (wx : World), Bb w.heap.size W H s pol draws spk w wx → (wx.cell? ⟨gl, i * 4, none⟩ = some (.int .i64 xi) ∧ wx.cell? ⟨gl, i * 4 + 1, none⟩ = some (.int .i64 yi) ∧ wx.cell? ⟨gl, i * 4 + 2, none⟩ = some (.int .i64 px) ∧ wx.cell? ⟨gl, i * 4 + 3, none⟩ = some (.int .i64 py)) := fun _ hx => by
            have := rd _ hx i hi'
            rw [HE.out, ← HSi.out] at this
            exact this
          have HEi := hid (show Qm.en (xi, yi, di) = ((px : Int), (py : Int)) by rw [HSi.out]; exact HE.out)
          obtain ⟨⟨exk, eyk⟩, hek⟩ : ∃ t, t = Qm.en (SL.getD k (0, 0, 0)) := ⟨_, rfl⟩
          obtain ⟨⟨exb, eyb⟩, heb⟩ : ∃ t, t = Qm.en (SL.getD b (0, 0, 0)) := ⟨_, rfl⟩
          have HEk := hid (show Qm.en ((px : Int), (py : Int), dk) = (exk, eyk) by rw [hek, ← HSk.out])
          have HEb := hid (show Qm.en (xb, yb, db) = (exb, eyb) by rw [heb, ← HSb.out])
          have rk : ∀ (wx : World), Bb w.heap.size W H s pol draws spk w wx → (wx.cell? ⟨gl, k * 4, none⟩ = some (.int .i64 px) ∧ wx.cell? ⟨gl, k * 4 + 1, none⟩ = some (.int .i64 py) ∧ wx.cell? ⟨gl, k * 4 + 2, none⟩ = some (.int .i64 exk) ∧ wx.cell? ⟨gl, k * 4 + 3, none⟩ = some (.int .i64 eyk)) := fun _ hx => by
            have := rd _ hx k hlt
            rw [← hek, ← HSk.out] at this
            exact this
          have rb : ∀ (wx : World), Bb w.heap.size W H s pol draws spk w wx → (wx.cell? ⟨gl, b * 4, none⟩ = some (.int .i64 xb) ∧ wx.cell? ⟨gl, b * 4 + 1, none⟩ = some (.int .i64 yb) ∧ wx.cell? ⟨gl, b * 4 + 2, none⟩ = some (.int .i64 exb) ∧ wx.cell? ⟨gl, b * 4 + 3, none⟩ = some (.int .i64 eyb)) := fun _ hx => by
            have := rd _ hx b (by omega)
            rw [← heb, ← HSb.out] at this
            exact this
          clear rd hek heb S1
          have RI := hid ri
          have RK := hid rk
          have RB := hid rb
          clear ri rk rb
          obtain ⟨c0, c1, c2, c3, c4, c5, -, hz⟩ := I1.out
          obtain ⟨t0, t1, t2, t3⟩ := RI.out _ I1.out
          go_wp2_with fail
          go_region_held3 (fun w' => w'.cell? ⟨w.heap.size, 0, none⟩ = some (.int .i64 W) ∧ w'.cell? ⟨w.heap.size, 1, none⟩ = some (.int .i64 H) ∧ w'.cell? ⟨w.heap.size, 2, none⟩ = some (.string s) ∧ w'.cell? ⟨w.heap.size + 1, 0, none⟩ = some (.int .i64 pol) ∧ w'.cell? ⟨w.heap.size + 1, 1, none⟩ = some (.string draws) ∧ w'.cell? ⟨w.heap.size + 1, 2, none⟩ = some (.int .i64 spk) ∧ w'.cell? ⟨gl, i * 4 + 2, none⟩ = some (.int .i64 px) ∧ w'.cell? ⟨gl, i * 4 + 3, none⟩ = some (.int .i64 py))
            (first | exact ⟨c0, c1, c2, c3, c4, c5, t2, t3⟩ | (have hq := I2.out; have hr := RI.out _ hq; exact ⟨hq.1, hq.2.1, hq.2.2.1, hq.2.2.2.1, hq.2.2.2.2.1, hq.2.2.2.2.2.1, hr.2.2.1, hr.2.2.2⟩))
            ((go_at_call 72; refine (refJoins_any W H s pol draws spk px py hp (by omega) (by omega) _ hw2 hh2 HL.out).mono ?_; rintro e w2 ⟨rfl, hb⟩; have I2 := hid (I1.out.drawn hb); clear hb))
          clear c0 c1 c2 c3 c4 c5 hz t0 t1 t2 t3
          obtain ⟨t0, t1, t2, t3⟩ := RI.out _ I2.out
          obtain ⟨u0, u1, u2, u3⟩ := RB.out _ I2.out
          go_wp2_with fail
          go_region_held3 (fun w' => w'.cell? ⟨gl, i * 4, none⟩ = some (.int .i64 xi) ∧ w'.cell? ⟨gl, i * 4 + 1, none⟩ = some (.int .i64 yi) ∧ w'.cell? ⟨gl, i * 4 + 2, none⟩ = some (.int .i64 px) ∧ w'.cell? ⟨gl, i * 4 + 3, none⟩ = some (.int .i64 py) ∧ w'.cell? ⟨gl, b * 4, none⟩ = some (.int .i64 xb) ∧ w'.cell? ⟨gl, b * 4 + 1, none⟩ = some (.int .i64 yb) ∧ w'.cell? ⟨gl, b * 4 + 2, none⟩ = some (.int .i64 exb) ∧ w'.cell? ⟨gl, b * 4 + 3, none⟩ = some (.int .i64 eyb))
            (first | exact ⟨t0, t1, t2, t3, u0, u1, u2, u3⟩ | (have hr := RI.out _ I3.out; have hs := RB.out _ I3.out; exact ⟨hr.1, hr.2.1, hr.2.2.1, hr.2.2.2, hs.1, hs.2.1, hs.2.2.1, hs.2.2.2⟩))
            ((go_at_call 73; refine (bend_raw xi yi di xb yb db px py exb eyb HEi.out HEb.out di4 db4 _).mono ?_; rintro e w3 ⟨rfl, hb⟩; have I3 := hid (I2.out.drawn hb); clear hb))
          clear t0 t1 t2 t3 u0 u1 u2 u3
          obtain ⟨t0, t1, t2, t3⟩ := RI.out _ I3.out
          obtain ⟨u0, u1, u2, u3⟩ := RK.out _ I3.out
          go_wp2_with fail
          go_region_held3 (fun w' => w'.cell? ⟨gl, i * 4, none⟩ = some (.int .i64 xi) ∧ w'.cell? ⟨gl, i * 4 + 1, none⟩ = some (.int .i64 yi) ∧ w'.cell? ⟨gl, i * 4 + 2, none⟩ = some (.int .i64 px) ∧ w'.cell? ⟨gl, i * 4 + 3, none⟩ = some (.int .i64 py) ∧ w'.cell? ⟨gl, k * 4, none⟩ = some (.int .i64 px) ∧ w'.cell? ⟨gl, k * 4 + 1, none⟩ = some (.int .i64 py) ∧ w'.cell? ⟨gl, k * 4 + 2, none⟩ = some (.int .i64 exk) ∧ w'.cell? ⟨gl, k * 4 + 3, none⟩ = some (.int .i64 eyk))
            (first | exact ⟨t0, t1, t2, t3, u0, u1, u2, u3⟩ | (have hr := RI.out _ I4.out; have hs := RK.out _ I4.out; exact ⟨hr.1, hr.2.1, hr.2.2.1, hr.2.2.2, hs.1, hs.2.1, hs.2.2.1, hs.2.2.2⟩))
            ((go_at_call 73; refine (bend_raw xi yi di px py dk px py exk eyk HEi.out HEk.out di4 dk4 _).mono ?_; rintro e w4 ⟨rfl, hb⟩; have I4 := hid (I3.out.drawn hb); clear hb))
          clear t0 t1 t2 t3 u0 u1 u2 u3
          have HM2 : Hid (∀ r, winB (Qm.jnB W H s.data.toList pol draws.data.toList px py) (bendD di db) (bendD di dk) = r → Best SL (Qm.en (SL.getD i (0, 0, 0))) kf (k + 1) (if r then k else b)) := by
            have h := HM.out
            rw [HE.out, ← HSi.out, ← HSb.out, ← HSk.out] at h
            rw [HE.out]
            exact h
          generalize bendD di db = old at *
          generalize bendD di dk = now at *
          cases hj : Qm.jnB W H s.data.toList pol draws.data.toList px py
          · rw [hj] at HM2
            by_cases cn : now < old
            · have HB2 := hid (HM2.out true (by simp [winB, cn]))
              go_wp2
              go_roundw
              case rel => exact ⟨k + 1, k, by omega, by go_num, rfl, by omega, by omega, HB2, I4⟩
              case measure => simp [intOf]; omega
            · have dn : decide (now < old) = false := by simp; omega
              have HB2 := hid (HM2.out false (by simp [winB]; omega))
              go_wp2
              go_roundw
              case rel => exact ⟨k + 1, b, by omega, by go_num, rfl, by omega, by omega, HB2, I4⟩
              case measure => simp [intOf]; omega
          · rw [hj] at HM2
            by_cases cn : old < now
            · have HB2 := hid (HM2.out true (by simp [winB, cn]))
              go_wp2
              go_roundw
              case rel => exact ⟨k + 1, k, by omega, by go_num, rfl, by omega, by omega, HB2, I4⟩
              case measure => simp [intOf]; omega
            · have dn : decide (old < now) = false := by simp; omega
              have HB2 := hid (HM2.out false (by simp [winB]; omega))
              go_wp2
              go_roundw
              case rel => exact ⟨k + 1, b, by omega, by go_num, rfl, by omega, by omega, HB2, I4⟩
              case measure => simp [intOf]; omega
      · have HNE := hid (show Qm.fromP (SL.getD k (0, 0, 0)) ≠ Qm.en (SL.getD i (0, 0, 0)) by rw [← HSk.out, HE.out]; intro e; exact eq ⟨congrArg Prod.fst e, congrArg Prod.snd e⟩)
        by_cases e1 : xk = px
        · have e2 : (yk == (py : Int)) = false := by simp; exact fun e => eq ⟨e1, e⟩
          subst e1
          clear eq
          go_wp2_with fail
          go_quiet (fail)
          go_wp2
          go_roundw
          case rel => exact ⟨k + 1, bi, by omega, by go_num, rfl, hb1, hb2, hB.out.skip HP0.out HNE.out, hid (hI.out.drewN _)⟩
          case measure => simp [intOf]; omega
        · have e2 : (xk == (px : Int)) = false := by simp; exact e1
          clear eq
          go_wp2_with fail
          go_quiet (fail)
          go_wp2
          go_roundw
          case rel => exact ⟨k + 1, bi, by omega, by go_num, rfl, hb1, hb2, hB.out.skip HP0.out HNE.out, hid (hI.out.drewN _)⟩
          case measure => simp [intOf]; omega
    · go_wp2
      go_ret
      exact ⟨ret_int (by have := hB.out; rw [show k = SL.length by have := HN.out; omega] at this; exact this.done (by have := HN.out; omega)), hI.out.2.2.2.2.2.2.1⟩
end Go.Proofs.YtljfiefobnncaabGreatDoor

/- outlineref.turned, Twice. -/
namespace Go.Proofs.YtljfiefobnncaabGreatDoor
open Go.RowKit
attribute [local go_sem ↓] Go.wp_at_zero Go.wp_at_succ

/-- The cells of a row of points, from number k on. -/
theorem PtsAt.news {g : Nat} {l : List (Int × Int)} {w : World} (h : PtsAt g l w) (k m : Nat) (hk : k + m ≤ l.length) : ∀ j u, (Qm.ptsV ((l.drop k).take m))[j]? = some u → w.cell? ((⟨g, k * 2, none⟩ : Addr).add j) = some u := by
  intro j u hj
  have hl : (Qm.ptsV ((l.drop k).take m)).length = m * 2 := by rw [Qm.ptsV_len]; simp; omega
  have hj2 : j < m * 2 := by rw [← hl]; exact (List.getElem?_eq_some_iff.1 hj).1
  rw [Addr.add_mid]
  have e := ptsV_at ((l.drop k).take m) (j / 2) (by simp; omega)
  have d : ((l.drop k).take m).getD (j / 2) (0, 0) = l.getD (k + j / 2) (0, 0) := by
    simp only [List.getD_eq_getElem?_getD, List.getElem?_take, List.getElem?_drop]
    rw [if_pos (by omega)]
  rw [d] at e
  have p := h.2 (k + j / 2) (by omega)
  rcases (show j = j / 2 * 2 ∨ j = j / 2 * 2 + 1 by omega) with hh | hh
  · rw [hh] at hj
    rw [e.1] at hj
    rw [show k * 2 + j = (k + j / 2) * 2 from by omega, p.1]
    exact hj
  · rw [hh] at hj
    rw [e.2] at hj
    rw [show k * 2 + j = (k + j / 2) * 2 + 1 from by omega, p.2]
    exact hj

set_option maxRecDepth 4000 in
set_option maxHeartbeats 2000000 in
theorem turned_any (g n cap : Nat) (l : List (Int × Int)) (hn : n = l.length) (h0 : 0 < n) (hc : n ≤ cap) (hs : Qm.Small l) (hn2 : n ≤ 4356) (w : World) (hP : PtsAt g l w) :
    Calls Tryz.prog 47 #[.slice (some ⟨g, 0, none⟩) n cap] w fun e w' => ∃ v k, e = .returned v ∧ k < n ∧ (∀ j, j < n → keyP (l.getD k (0, 0)) ≤ keyP (l.getD j (0, 0))) ∧ w'.ownsRow w.heap.size 65 2 v n (Qm.ptsV (l.drop k ++ l.take k)) ∧ Below w.heap.size w w' := by
  obtain ⟨i0, hi, hz0, hz1, hz2⟩ := info_parts infoPoint
  have HP := hid hP
  have hg := hP.1
  have HN := hid hn
  clear hP hn
  go_enter Tryz.func47, Tryz.ntmps47
  go_wp2
  go_loopw [3, 4] (fun kv iv wr => ∃ (k i : Nat), k < n ∧ i ≤ n ∧ kv = .int .i64 k ∧ iv = .int .i64 i ∧ Hid (∀ j, j < i → keyP (l.getD k (0, 0)) ≤ keyP (l.getD j (0, 0))) ∧ Below w.heap.size w wr) (fun _ i _ => n - (intOf i).toNat)
  case atStart => exact ⟨0, 0, by omega, by omega, rfl, rfl, fun j hj => by omega, Below.refl _ _⟩
  case round =>
    obtain ⟨k, i, hk, hi2, rfl, rfl, hmin, hb⟩ := hrel
    have HB := hid hb
    clear hb
    by_cases hlt : i < n
    · obtain ⟨s0, s1⟩ := (HP.out.on HB.out hg).2 i (by have := HN.out; omega)
      obtain ⟨t0, t1⟩ := (HP.out.on HB.out hg).2 k (by have := HN.out; omega)
      have si := hs.at i
      have sk := hs.at k
      obtain ⟨⟨xi, yi⟩, hpi⟩ : ∃ t, t = l.getD i (0, 0) := ⟨_, rfl⟩
      obtain ⟨⟨xk, yk⟩, hpk⟩ : ∃ t, t = l.getD k (0, 0) := ⟨_, rfl⟩
      have rd : ∀ (wx : World), Below w.heap.size w wx → wx.cell? ⟨g, i * 2, none⟩ = some (.int .i64 xi) ∧ wx.cell? ⟨g, i * 2 + 1, none⟩ = some (.int .i64 yi) ∧ wx.cell? ⟨g, k * 2, none⟩ = some (.int .i64 xk) ∧ wx.cell? ⟨g, k * 2 + 1, none⟩ = some (.int .i64 yk) := fun wx hx => by
        have a := (HP.out.on hx hg).2 i (by have := HN.out; omega)
        have b := (HP.out.on hx hg).2 k (by have := HN.out; omega)
        rw [← hpi] at a
        rw [← hpk] at b
        exact ⟨a.1, a.2, b.1, b.2⟩
      rw [← hpi] at s0 s1 si
      rw [← hpk] at t0 t1 sk
      dsimp only at s0 s1 t0 t1 si sk
      have RD := hid rd
      have HPI := hid hpi
      have HPK := hid hpk
      clear rd hpi hpk
      have i0' : (0 : Int) ≤ (i : Nat) := by omega
      have i1' : ((i : Nat) : Int) < (n : Nat) := by omega
      have k0' : (0 : Int) ≤ (k : Nat) := by omega
      have k1' : ((k : Nat) : Int) < (n : Nat) := by omega
      go_wp2_with fail
      go_region_held3 (fun w' => w'.cell? ⟨g, i * 2, none⟩ = some (.int .i64 xi) ∧ w'.cell? ⟨g, i * 2 + 1, none⟩ = some (.int .i64 yi) ∧ w'.cell? ⟨g, k * 2, none⟩ = some (.int .i64 xk) ∧ w'.cell? ⟨g, k * 2 + 1, none⟩ = some (.int .i64 yk))
        (first | exact ⟨s0, s1, t0, t1⟩ | exact RD.out _ B2.out)
        ((go_at_call 74; refine (ahead_any xi yi xk yk (by omega) (by omega) _).mono ?_; rintro e w2 ⟨rfl, hb2⟩; have B2 := hid (show Below w.heap.size w w2 from HB.out.trans (Below.trans (b := _) ((Below.refl _ _).drew) (hb2.mono (by have := HB.out.size; simp; omega)))); clear hb2))
      clear s0 s1 t0 t1
      cases ha : decide (keyP (xi, yi) < keyP (xk, yk))
      · go_wp2
        go_roundw
        case rel => exact ⟨k, i + 1, hk, by omega, rfl, by go_num, fun j hj => by
          rcases Nat.lt_or_ge j i with h1 | h1
          · exact hmin.out j h1
          · obtain rfl : j = i := by omega
            rw [← HPI.out, ← HPK.out]
            simp at ha; exact ha, B2.out⟩
        case measure => simp [intOf]; omega
      · go_wp2
        go_roundw
        case rel => exact ⟨i, i + 1, hlt, by omega, rfl, by go_num, fun j hj => by
          rcases Nat.lt_or_ge j i with h1 | h1
          · have := hmin.out j h1
            rw [← HPK.out] at this
            rw [← HPI.out]
            simp at ha; omega
          · obtain rfl : j = i := by omega
            exact Int.le_refl _, B2.out⟩
        case measure => simp [intOf]; omega
    · have e1 : i = n := by omega
      have hk0 : (0 : Int) ≤ (k : Nat) := by omega
      have hk1 : ((k : Nat) : Int) ≤ (n : Nat) := by omega
      have hc1 : ((n : Nat) : Int) ≤ (cap : Nat) := by omega
      have hc2 : ((k : Nat) : Int) ≤ (cap : Nat) := by omega
      have nw1 := hid ((HP.out.on HB.out hg).news k (n - k) (by have := HN.out; omega))
      have d1 : (l.drop k).take (n - k) = l.drop k := List.take_of_length_le (by have := HN.out; simp; omega)
      rw [d1] at nw1
      have l1 := hid (show (Qm.ptsV (l.drop k)).length = (n - k) * 2 by rw [Qm.ptsV_len]; simp; have := HN.out; omega)
      have l2 := hid (show (Qm.ptsV (l.take k)).length = k * 2 by rw [Qm.ptsV_len]; simp; have := HN.out; omega)
      have hsz := HB.out.size
      clear d1
      go_wp2_with (first
        | (at_builtin; refine wpList_append_own _ rfl _ _ 43 rfl w.heap.size 65 i0 (.agg #[.int .i64 0, .int .i64 0]) 2 16 Tryz.underlying43 hi hz0 hz1 hz2 rfl (by decide) _ _ _ rfl (World.ownsRow_nil _ _ _ _) ⟨g, k * 2, none⟩ (n - k) (cap - k) (Qm.ptsV (l.drop k)) rfl l1.out nw1.out (pts_one _) (by unfold maxLen; omega) (by omega) hsz ?_))
      intro v1 w1 o1 g1 _
      have B1 := hid (show Below w.heap.size w w1 from HB.out.grown g1 hsz (fun q hq => by simp [Value.ownBlock] at hq))
      have O1 := hid o1
      have hsz1 := B1.out.size
      clear o1 g1 nw1 HB
      have nw2 := hid ((HP.out.on B1.out hg).news 0 k (by have := HN.out; omega))
      simp only [List.drop_zero, Nat.zero_mul] at nw2
      go_wp2_with (first
        | (at_builtin; refine wpList_append_own _ rfl _ _ 43 rfl w.heap.size 65 i0 (.agg #[.int .i64 0, .int .i64 0]) 2 16 Tryz.underlying43 hi hz0 hz1 hz2 rfl (by decide) _ _ _ rfl O1.out ⟨g, 0, none⟩ k cap (Qm.ptsV (l.take k)) rfl l2.out nw2.out (pts_one _) (by unfold maxLen; omega) (by omega) hsz1 ?_))
      intro v2 w2 o2 g2 _
      have B2 := hid (show Below w.heap.size w w2 from B1.out.grown g2 hsz1 (fun q hq => (O1.out.lt q hq).1))
      have O2 := hid o2
      clear o2 g2
      go_wp2
      go_ret
      refine ⟨_, k, rfl, hk, fun j hj => hmin.out j (by omega), ?_, B2.out⟩
      have := O2.out
      rw [← ptsV_app, show n - k + k = n by omega] at this
      exact this
end Go.Proofs.YtljfiefobnncaabGreatDoor
