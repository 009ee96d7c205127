import Derived.Test.YtljfiefobnncaaaK07
import Derived.Deep.MidRow

/- outlineref.after. -/
namespace Go.Proofs.Ytljfiefobnncaaa
open Go.RowKit
attribute [local go_sem ↓] Go.wp_at_zero Go.wp_at_succ

/-- The sides of a row stand at block g. -/
def SdsAt (g : Nat) (l : List Qm.Sd) (w : World) : Prop := g < w.heap.size ∧ ∀ j, j < l.length → w.cell? ⟨g, j * 4, none⟩ = some (.int .i64 (l.getD j (0, 0, 0)).1) ∧ w.cell? ⟨g, j * 4 + 1, none⟩ = some (.int .i64 (l.getD j (0, 0, 0)).2.1) ∧
  w.cell? ⟨g, j * 4 + 2, none⟩ = some (.int .i64 (Qm.en (l.getD j (0, 0, 0))).1) ∧ w.cell? ⟨g, j * 4 + 3, none⟩ = some (.int .i64 (Qm.en (l.getD j (0, 0, 0))).2)
theorem SdsAt.on {g : Nat} {l : List Qm.Sd} {w w' : World} {B : Nat} (h : SdsAt g l w) (hb : Below B w w') (hg : g < B) : SdsAt g l w' :=
  ⟨Nat.lt_of_lt_of_le h.1 hb.size, fun j hj => ⟨(hb.cell (p := ⟨g, j * 4, none⟩) hg).trans (h.2 j hj).1, (hb.cell (p := ⟨g, j * 4 + 1, none⟩) hg).trans (h.2 j hj).2.1, (hb.cell (p := ⟨g, j * 4 + 2, none⟩) hg).trans (h.2 j hj).2.2.1, (hb.cell (p := ⟨g, j * 4 + 3, none⟩) hg).trans (h.2 j hj).2.2.2⟩⟩

/-- The two boxes that 'after' lays stand. -/
def Bb (B W H : Nat) (s : ByteArray) (pol : Nat) (draws : ByteArray) (spk : Int) (w wr : World) : Prop :=
  wr.cell? ⟨B, 0, none⟩ = some (.int .i64 W) ∧ wr.cell? ⟨B, 1, none⟩ = some (.int .i64 H) ∧ wr.cell? ⟨B, 2, none⟩ = some (.string s) ∧ wr.cell? ⟨B + 1, 0, none⟩ = some (.int .i64 pol) ∧ wr.cell? ⟨B + 1, 1, none⟩ = some (.string draws) ∧ wr.cell? ⟨B + 1, 2, none⟩ = some (.int .i64 spk) ∧ Below B w wr ∧ B + 1 < wr.heap.size
theorem Bb.on {B W H : Nat} {s : ByteArray} {pol : Nat} {draws : ByteArray} {spk : Int} {w wr w2 : World} (h : Bb B W H s pol draws spk w wr) (hb : Below wr.heap.size wr w2) : Bb B W H s pol draws spk w w2 := by
  obtain ⟨c0, c1, c2, c3, c4, c5, hn, hz⟩ := h
  have hz' : B < wr.heap.size := by omega
  exact ⟨(hb.cell (p := ⟨B, 0, none⟩) hz').trans c0, (hb.cell (p := ⟨B, 1, none⟩) hz').trans c1, (hb.cell (p := ⟨B, 2, none⟩) hz').trans c2, (hb.cell (p := ⟨B + 1, 0, none⟩) hz).trans c3, (hb.cell (p := ⟨B + 1, 1, none⟩) hz).trans c4, (hb.cell (p := ⟨B + 1, 2, none⟩) hz).trans c5, hn.trans (hb.mono (Nat.le_of_lt hz')), Nat.lt_of_lt_of_le hz hb.size⟩
theorem Bb.drewN {B W H : Nat} {s : ByteArray} {pol : Nat} {draws : ByteArray} {spk : Int} {w wr : World} (h : Bb B W H s pol draws spk w wr) (n : Nat) : Bb B W H s pol draws spk w (wr.drewN n) := h.on ⟨rfl, rfl, rfl, Nat.le_refl _, fun _ _ => rfl⟩

theorem Bb.drawn {B W H : Nat} {s : ByteArray} {pol : Nat} {draws : ByteArray} {spk : Int} {w wr w2 : World} (h : Bb B W H s pol draws spk w wr) (hb : Below wr.drew.heap.size wr.drew w2) : Bb B W H s pol draws spk w w2 := Bb.on (wr := wr.drew) (h.on ((Below.refl _ _).drew)) hb

theorem bend_raw (x y : Int) (d : Nat) (x' y' : Int) (d' : Nat) (ex ey ex' ey' : Int) (he : Qm.en (x, y, d) = (ex, ey)) (he' : Qm.en (x', y', d') = (ex', ey')) (hd : d < 4) (hd' : d' < 4) (w : World) :
    Calls Try.prog 74 #[.agg #[.int .i64 x, .int .i64 y, .int .i64 ex, .int .i64 ey], .agg #[.int .i64 x', .int .i64 y', .int .i64 ex', .int .i64 ey']] w fun e w' => e = .returned (.int .i64 (bendD d d')) ∧ Below w.heap.size w w' := by
  have := bend_any x y d x' y' d' hd hd' w
  simpa only [sdV, he, he'] using this

set_option maxHeartbeats 2000000 in
theorem after_any (W H : Nat) (s : ByteArray) (pol : Nat) (draws : ByteArray) (spk : Int) (gl n cap i kf : Nat) (SL : List Qm.Sd) (w : World) (hw2 : W ≤ 32) (hh2 : H ≤ 32) (hl : s.size = W * H) (hp : pol ≤ 3)
    (hn : n = SL.length) (hn2 : n ≤ 4096) (hall : ∀ j, j < SL.length → Qm.isS (Pm.blackB W H s.data.toList) (SL.getD j (0, 0, 0)) = true) (hnd : ∀ i j, i < SL.length → j < SL.length → SL.getD i (0, 0, 0) = SL.getD j (0, 0, 0) → i = j)
    (hi : i < SL.length) (hkf : kf < SL.length) (ef : SL.getD kf (0, 0, 0) = fB W H s pol draws (SL.getD i (0, 0, 0))) (hS : SdsAt gl SL w) :
    Calls Try.prog 53 #[.agg #[.int .i64 W, .int .i64 H, .string s], .agg #[.int .i64 pol, .string draws, .int .i64 spk], .slice (some ⟨gl, 0, none⟩) n cap, .int .i64 i] w fun e w' => e = .returned (.int .i64 kf) ∧ Below w.heap.size w w' := by
  have HL := hid hl
  have HN := hid hn
  have HALL := hid hall
  have HND := hid hnd
  have EF := hid ef
  have HS := hid hS
  have hgl := hS.1
  have hi' : i < n := by omega
  have hkf' : kf < n := by omega
  obtain ⟨px, py, he, hpx, hpy, -⟩ := en_nat (pol := pol) (draws := draws) hw2 hh2 (hall i hi)
  have HE := hid he
  clear hl hn hall hnd ef hS he
  go_enter Try.func53, Try.ntmps53
  go_wp2
  go_loopw [9, 10] (fun bv kv wr => ∃ (k : Nat) (bi : Int), k ≤ n ∧ kv = .int .i64 k ∧ bv = .int .i64 bi ∧ -1 ≤ bi ∧ bi < n ∧ Hid (Best SL (Qm.en (SL.getD i (0, 0, 0))) kf k bi) ∧
    Hid (Bb w.heap.size W H s pol draws spk w wr)) (fun _ k _ => n - (intOf k).toNat)
  case atStart => exact ⟨0, -1, by omega, rfl, rfl, by omega, by omega, .inl ⟨rfl, by omega⟩, ⟨by simp, by simp, by simp, by simp [go_sem], by simp [go_sem], by simp [go_sem], by go_grown, by simp⟩⟩
  case round =>
    obtain ⟨k, bi, hk, rfl, rfl, hb1, hb2, hB, hI⟩ := hrel
    by_cases hlt : k < n
    · obtain ⟨s0, s1, s2, s3⟩ := (HS.out.on hI.out.2.2.2.2.2.2.1 hgl).2 k (by have := HN.out; omega)
      obtain ⟨t0, t1, t2, t3⟩ := (HS.out.on hI.out.2.2.2.2.2.2.1 hgl).2 i (by have := HN.out; omega)
      rw [HE.out] at t2 t3
      have hk0 : (0 : Int) ≤ (k : Nat) := by omega
      have hk1 : ((k : Nat) : Int) < (n : Nat) := by omega
      have hi0 : (0 : Int) ≤ (i : Nat) := by omega
      have hi1 : ((i : Nat) : Int) < (n : Nat) := by omega
      obtain ⟨⟨xk, yk, dk⟩, hSk⟩ : ∃ t, t = SL.getD k (0, 0, 0) := ⟨_, rfl⟩
      obtain ⟨⟨xi, yi, di⟩, hSi⟩ : ∃ t, t = SL.getD i (0, 0, 0) := ⟨_, rfl⟩
      rw [← hSk] at s0 s1 s2 s3
      rw [← hSi] at t0 t1
      dsimp only at s0 s1 t0 t1
      have HSk := hid hSk
      have HSi := hid hSi
      have HP0 := hid (show Qm.fromP (SL.getD kf (0, 0, 0)) = Qm.en (SL.getD i (0, 0, 0)) by rw [EF.out]; rfl)
      clear hSk hSi
      by_cases eq : xk = px ∧ yk = py
      · obtain ⟨rfl, rfl⟩ := eq
        have HPK := hid (show Qm.fromP (SL.getD k (0, 0, 0)) = Qm.en (SL.getD i (0, 0, 0)) by rw [← HSk.out, HE.out]; rfl)
        go_wp2_with fail
        go_quiet (fail)
        by_cases bn : bi < 0
        · go_wp2
          go_roundw
          case rel => exact ⟨k + 1, k, by omega, by go_num, rfl, by omega, by omega, hB.out.first bn HPK.out, hid (hI.out.drewN _)⟩
          case measure => simp [intOf]; omega
        · obtain ⟨b, rfl⟩ : ∃ b : Nat, bi = b := ⟨bi.toNat, by omega⟩
          have M := Best.more HALL.out HND.out (HALL.out i (by have := HN.out; omega)) (by have := HN.out; omega) EF.out (by have := HN.out; omega) hB.out HPK.out
          have hbk := M.1
          have HM := hid M.2
          have I1 := hid (hI.out.drewN nq)
          have S1 := hid (HS.out.on I1.out.2.2.2.2.2.2.1 hgl)
          have ebn : ((b : Nat) : Int) < (n : Nat) := by omega
          have eb0 : (0 : Int) ≤ (b : Nat) := by omega
          obtain ⟨⟨xb, yb, db⟩, hSb⟩ : ∃ t, t = SL.getD b (0, 0, 0) := ⟨_, rfl⟩
          have HSb := hid hSb
          clear M hSb s0 s1 s2 s3 t0 t1 t2 t3 hb1 hb2 bn
          revert I1 S1
          generalize World.drewN wr nq = W0
          intro I1 S1
          have di4 := Qm.isS_lt (HALL.out i (by have := HN.out; omega))
          have dk4 := Qm.isS_lt (HALL.out k (by have := HN.out; omega))
          have db4 := Qm.isS_lt (HALL.out b (by have := HN.out; omega))
          rw [← HSi.out] at di4
          rw [← HSk.out] at dk4
          rw [← HSb.out] at db4
          dsimp only at di4 dk4 db4
          have rd : ∀ (wx : World), Bb w.heap.size W H s pol draws spk w wx → ∀ j, j < n → (wx.cell? ⟨gl, j * 4, none⟩ = some (.int .i64 (SL.getD j (0, 0, 0)).1) ∧ wx.cell? ⟨gl, j * 4 + 1, none⟩ = some (.int .i64 (SL.getD j (0, 0, 0)).2.1) ∧ wx.cell? ⟨gl, j * 4 + 2, none⟩ = some (.int .i64 (Qm.en (SL.getD j (0, 0, 0))).1) ∧ wx.cell? ⟨gl, j * 4 + 3, none⟩ = some (.int .i64 (Qm.en (SL.getD j (0, 0, 0))).2)) := fun _ hx j hj => (HS.out.on hx.2.2.2.2.2.2.1 hgl).2 j (by have := HN.out; omega)
          have ri : ∀ (wx : World), Bb w.heap.size W H s pol draws spk w wx → (wx.cell? ⟨gl, i * 4, none⟩ = some (.int .i64 xi) ∧ wx.cell? ⟨gl, i * 4 + 1, none⟩ = some (.int .i64 yi) ∧ wx.cell? ⟨gl, i * 4 + 2, none⟩ = some (.int .i64 px) ∧ wx.cell? ⟨gl, i * 4 + 3, none⟩ = some (.int .i64 py)) := fun _ hx => by
            have := rd _ hx i hi'
            rw [HE.out, ← HSi.out] at this
            exact this
          have HEi := hid (show Qm.en (xi, yi, di) = ((px : Int), (py : Int)) by rw [HSi.out]; exact HE.out)
          obtain ⟨⟨exk, eyk⟩, hek⟩ : ∃ t, t = Qm.en (SL.getD k (0, 0, 0)) := ⟨_, rfl⟩
          obtain ⟨⟨exb, eyb⟩, heb⟩ : ∃ t, t = Qm.en (SL.getD b (0, 0, 0)) := ⟨_, rfl⟩
          have HEk := hid (show Qm.en ((px : Int), (py : Int), dk) = (exk, eyk) by rw [hek, ← HSk.out])
          have HEb := hid (show Qm.en (xb, yb, db) = (exb, eyb) by rw [heb, ← HSb.out])
          have rk : ∀ (wx : World), Bb w.heap.size W H s pol draws spk w wx → (wx.cell? ⟨gl, k * 4, none⟩ = some (.int .i64 px) ∧ wx.cell? ⟨gl, k * 4 + 1, none⟩ = some (.int .i64 py) ∧ wx.cell? ⟨gl, k * 4 + 2, none⟩ = some (.int .i64 exk) ∧ wx.cell? ⟨gl, k * 4 + 3, none⟩ = some (.int .i64 eyk)) := fun _ hx => by
            have := rd _ hx k hlt
            rw [← hek, ← HSk.out] at this
            exact this
          have rb : ∀ (wx : World), Bb w.heap.size W H s pol draws spk w wx → (wx.cell? ⟨gl, b * 4, none⟩ = some (.int .i64 xb) ∧ wx.cell? ⟨gl, b * 4 + 1, none⟩ = some (.int .i64 yb) ∧ wx.cell? ⟨gl, b * 4 + 2, none⟩ = some (.int .i64 exb) ∧ wx.cell? ⟨gl, b * 4 + 3, none⟩ = some (.int .i64 eyb)) := fun _ hx => by
            have := rd _ hx b (by omega)
            rw [← heb, ← HSb.out] at this
            exact this
          clear rd hek heb S1
          have RI := hid ri
          have RK := hid rk
          have RB := hid rb
          clear ri rk rb
          obtain ⟨c0, c1, c2, c3, c4, c5, -, hz⟩ := I1.out
          obtain ⟨t0, t1, t2, t3⟩ := RI.out _ I1.out
          go_wp2_with fail
          go_region_held3 (fun w' => w'.cell? ⟨w.heap.size, 0, none⟩ = some (.int .i64 W) ∧ w'.cell? ⟨w.heap.size, 1, none⟩ = some (.int .i64 H) ∧ w'.cell? ⟨w.heap.size, 2, none⟩ = some (.string s) ∧ w'.cell? ⟨w.heap.size + 1, 0, none⟩ = some (.int .i64 pol) ∧ w'.cell? ⟨w.heap.size + 1, 1, none⟩ = some (.string draws) ∧ w'.cell? ⟨w.heap.size + 1, 2, none⟩ = some (.int .i64 spk) ∧ w'.cell? ⟨gl, i * 4 + 2, none⟩ = some (.int .i64 px) ∧ w'.cell? ⟨gl, i * 4 + 3, none⟩ = some (.int .i64 py))
            (first | exact ⟨c0, c1, c2, c3, c4, c5, t2, t3⟩ | (have hq := I2.out; have hr := RI.out _ hq; exact ⟨hq.1, hq.2.1, hq.2.2.1, hq.2.2.2.1, hq.2.2.2.2.1, hq.2.2.2.2.2.1, hr.2.2.1, hr.2.2.2⟩))
            ((go_at_call 73; refine (refJoins_any W H s pol draws spk px py hp (by omega) (by omega) _ hw2 hh2 HL.out).mono ?_; rintro e w2 ⟨rfl, hb⟩; have I2 := hid (I1.out.drawn hb); clear hb))
          clear c0 c1 c2 c3 c4 c5 hz t0 t1 t2 t3
          obtain ⟨t0, t1, t2, t3⟩ := RI.out _ I2.out
          obtain ⟨u0, u1, u2, u3⟩ := RB.out _ I2.out
          go_wp2_with fail
          go_region_held3 (fun w' => w'.cell? ⟨gl, i * 4, none⟩ = some (.int .i64 xi) ∧ w'.cell? ⟨gl, i * 4 + 1, none⟩ = some (.int .i64 yi) ∧ w'.cell? ⟨gl, i * 4 + 2, none⟩ = some (.int .i64 px) ∧ w'.cell? ⟨gl, i * 4 + 3, none⟩ = some (.int .i64 py) ∧ w'.cell? ⟨gl, b * 4, none⟩ = some (.int .i64 xb) ∧ w'.cell? ⟨gl, b * 4 + 1, none⟩ = some (.int .i64 yb) ∧ w'.cell? ⟨gl, b * 4 + 2, none⟩ = some (.int .i64 exb) ∧ w'.cell? ⟨gl, b * 4 + 3, none⟩ = some (.int .i64 eyb))
            (first | exact ⟨t0, t1, t2, t3, u0, u1, u2, u3⟩ | (have hr := RI.out _ I3.out; have hs := RB.out _ I3.out; exact ⟨hr.1, hr.2.1, hr.2.2.1, hr.2.2.2, hs.1, hs.2.1, hs.2.2.1, hs.2.2.2⟩))
            ((go_at_call 74; refine (bend_raw xi yi di xb yb db px py exb eyb HEi.out HEb.out di4 db4 _).mono ?_; rintro e w3 ⟨rfl, hb⟩; have I3 := hid (I2.out.drawn hb); clear hb))
          clear t0 t1 t2 t3 u0 u1 u2 u3
          obtain ⟨t0, t1, t2, t3⟩ := RI.out _ I3.out
          obtain ⟨u0, u1, u2, u3⟩ := RK.out _ I3.out
          go_wp2_with fail
          go_region_held3 (fun w' => w'.cell? ⟨gl, i * 4, none⟩ = some (.int .i64 xi) ∧ w'.cell? ⟨gl, i * 4 + 1, none⟩ = some (.int .i64 yi) ∧ w'.cell? ⟨gl, i * 4 + 2, none⟩ = some (.int .i64 px) ∧ w'.cell? ⟨gl, i * 4 + 3, none⟩ = some (.int .i64 py) ∧ w'.cell? ⟨gl, k * 4, none⟩ = some (.int .i64 px) ∧ w'.cell? ⟨gl, k * 4 + 1, none⟩ = some (.int .i64 py) ∧ w'.cell? ⟨gl, k * 4 + 2, none⟩ = some (.int .i64 exk) ∧ w'.cell? ⟨gl, k * 4 + 3, none⟩ = some (.int .i64 eyk))
            (first | exact ⟨t0, t1, t2, t3, u0, u1, u2, u3⟩ | (have hr := RI.out _ I4.out; have hs := RK.out _ I4.out; exact ⟨hr.1, hr.2.1, hr.2.2.1, hr.2.2.2, hs.1, hs.2.1, hs.2.2.1, hs.2.2.2⟩))
            ((go_at_call 74; refine (bend_raw xi yi di px py dk px py exk eyk HEi.out HEk.out di4 dk4 _).mono ?_; rintro e w4 ⟨rfl, hb⟩; have I4 := hid (I3.out.drawn hb); clear hb))
          clear t0 t1 t2 t3 u0 u1 u2 u3
          have HM2 : Hid (∀ r, winB (Qm.jnB W H s.data.toList pol draws.data.toList px py) (bendD di db) (bendD di dk) = r → Best SL (Qm.en (SL.getD i (0, 0, 0))) kf (k + 1) (if r then k else b)) := by
            have h := HM.out
            rw [HE.out, ← HSi.out, ← HSb.out, ← HSk.out] at h
            rw [HE.out]
            exact h
          generalize bendD di db = old at *
          generalize bendD di dk = now at *
          cases hj : Qm.jnB W H s.data.toList pol draws.data.toList px py
          · rw [hj] at HM2
            by_cases cn : now < old
            · have HB2 := hid (HM2.out true (by simp [winB, cn]))
              go_wp2
              go_roundw
              case rel => exact ⟨k + 1, k, by omega, by go_num, rfl, by omega, by omega, HB2, I4⟩
              case measure => simp [intOf]; omega
            · have dn : decide (now < old) = false := by simp; omega
              have HB2 := hid (HM2.out false (by simp [winB]; omega))
              go_wp2
              go_roundw
              case rel => exact ⟨k + 1, b, by omega, by go_num, rfl, by omega, by omega, HB2, I4⟩
              case measure => simp [intOf]; omega
          · rw [hj] at HM2
            by_cases cn : old < now
            · have HB2 := hid (HM2.out true (by simp [winB, cn]))
              go_wp2
              go_roundw
              case rel => exact ⟨k + 1, k, by omega, by go_num, rfl, by omega, by omega, HB2, I4⟩
              case measure => simp [intOf]; omega
            · have dn : decide (old < now) = false := by simp; omega
              have HB2 := hid (HM2.out false (by simp [winB]; omega))
              go_wp2
              go_roundw
              case rel => exact ⟨k + 1, b, by omega, by go_num, rfl, by omega, by omega, HB2, I4⟩
              case measure => simp [intOf]; omega
      · have HNE := hid (show Qm.fromP (SL.getD k (0, 0, 0)) ≠ Qm.en (SL.getD i (0, 0, 0)) by rw [← HSk.out, HE.out]; intro e; exact eq ⟨congrArg Prod.fst e, congrArg Prod.snd e⟩)
        by_cases e1 : xk = px
        · have e2 : (yk == (py : Int)) = false := by simp; exact fun e => eq ⟨e1, e⟩
          subst e1
          clear eq
          go_wp2_with fail
          go_quiet (fail)
          go_wp2
          go_roundw
          case rel => exact ⟨k + 1, bi, by omega, by go_num, rfl, hb1, hb2, hB.out.skip HP0.out HNE.out, hid (hI.out.drewN _)⟩
          case measure => simp [intOf]; omega
        · have e2 : (xk == (px : Int)) = false := by simp; exact e1
          clear eq
          go_wp2_with fail
          go_quiet (fail)
          go_wp2
          go_roundw
          case rel => exact ⟨k + 1, bi, by omega, by go_num, rfl, hb1, hb2, hB.out.skip HP0.out HNE.out, hid (hI.out.drewN _)⟩
          case measure => simp [intOf]; omega
    · go_wp2
      go_ret
      exact ⟨ret_int (by have := hB.out; rw [show k = SL.length by have := HN.out; omega] at this; exact this.done (by have := HN.out; omega)), hI.out.2.2.2.2.2.2.1⟩
end Go.Proofs.Ytljfiefobnncaaa

/- outlineref.turned, Twice. -/
namespace Go.Proofs.Ytljfiefobnncaaa
open Go.RowKit
attribute [local go_sem ↓] Go.wp_at_zero Go.wp_at_succ

theorem pts_one (l : List (Int × Int)) : ∀ u ∈ Qm.ptsV l, u.oneCell' = true := by
  intro u hu
  simp only [Qm.ptsV, List.mem_flatMap] at hu
  obtain ⟨s, _, hs⟩ := hu
  simp only [Qm.ptV, List.mem_cons, List.not_mem_nil, or_false] at hs
  rcases hs with rfl | rfl <;> rfl
theorem ptsV_app (a b : List (Int × Int)) : Qm.ptsV (a ++ b) = Qm.ptsV a ++ Qm.ptsV b := by simp [Qm.ptsV]
/-- The cells of a row of points, from number k on. -/
theorem PtsAt.news {g : Nat} {l : List (Int × Int)} {w : World} (h : PtsAt g l w) (k m : Nat) (hk : k + m ≤ l.length) : ∀ j u, (Qm.ptsV ((l.drop k).take m))[j]? = some u → w.cell? ((⟨g, k * 2, none⟩ : Addr).add j) = some u := by
  intro j u hj
  have hl : (Qm.ptsV ((l.drop k).take m)).length = m * 2 := by rw [Qm.ptsV_len]; simp; omega
  have hj2 : j < m * 2 := by rw [← hl]; exact (List.getElem?_eq_some_iff.1 hj).1
  rw [Addr.add_mid]
  have e := ptsV_at ((l.drop k).take m) (j / 2) (by simp; omega)
  have d : ((l.drop k).take m).getD (j / 2) (0, 0) = l.getD (k + j / 2) (0, 0) := by
    simp only [List.getD_eq_getElem?_getD, List.getElem?_take, List.getElem?_drop]
    rw [if_pos (by omega)]
  rw [d] at e
  have p := h.2 (k + j / 2) (by omega)
  rcases (show j = j / 2 * 2 ∨ j = j / 2 * 2 + 1 by omega) with hh | hh
  · rw [hh] at hj
    rw [e.1] at hj
    rw [show k * 2 + j = (k + j / 2) * 2 from by omega, p.1]
    exact hj
  · rw [hh] at hj
    rw [e.2] at hj
    rw [show k * 2 + j = (k + j / 2) * 2 + 1 from by omega, p.2]
    exact hj

set_option maxRecDepth 4000 in
set_option maxHeartbeats 2000000 in
theorem turned_any (g n cap : Nat) (l : List (Int × Int)) (hn : n = l.length) (h0 : 0 < n) (hc : n ≤ cap) (hs : Qm.Small l) (hn2 : n ≤ 4356) (w : World) (hP : PtsAt g l w) :
    Calls Try.prog 54 #[.slice (some ⟨g, 0, none⟩) n cap] w fun e w' => ∃ v k, e = .returned v ∧ k < n ∧ (∀ j, j < n → keyP (l.getD k (0, 0)) ≤ keyP (l.getD j (0, 0))) ∧ w'.ownsRow w.heap.size 47 2 v n (Qm.ptsV (l.drop k ++ l.take k)) ∧ Below w.heap.size w w' := by
  obtain ⟨i0, hi, hz0, hz1, hz2⟩ := info_parts infoPoint
  have HP := hid hP
  have hg := hP.1
  have HN := hid hn
  clear hP hn
  go_enter Try.func54, Try.ntmps54
  go_wp2
  go_loopw [3, 4] (fun kv iv wr => ∃ (k i : Nat), k < n ∧ i ≤ n ∧ kv = .int .i64 k ∧ iv = .int .i64 i ∧ Hid (∀ j, j < i → keyP (l.getD k (0, 0)) ≤ keyP (l.getD j (0, 0))) ∧ Below w.heap.size w wr) (fun _ i _ => n - (intOf i).toNat)
  case atStart => exact ⟨0, 0, by omega, by omega, rfl, rfl, fun j hj => by omega, Below.refl _ _⟩
  case round =>
    obtain ⟨k, i, hk, hi2, rfl, rfl, hmin, hb⟩ := hrel
    have HB := hid hb
    clear hb
    by_cases hlt : i < n
    · obtain ⟨s0, s1⟩ := (HP.out.on HB.out hg).2 i (by have := HN.out; omega)
      obtain ⟨t0, t1⟩ := (HP.out.on HB.out hg).2 k (by have := HN.out; omega)
      have si := hs.at i
      have sk := hs.at k
      obtain ⟨⟨xi, yi⟩, hpi⟩ : ∃ t, t = l.getD i (0, 0) := ⟨_, rfl⟩
      obtain ⟨⟨xk, yk⟩, hpk⟩ : ∃ t, t = l.getD k (0, 0) := ⟨_, rfl⟩
      have rd : ∀ (wx : World), Below w.heap.size w wx → wx.cell? ⟨g, i * 2, none⟩ = some (.int .i64 xi) ∧ wx.cell? ⟨g, i * 2 + 1, none⟩ = some (.int .i64 yi) ∧ wx.cell? ⟨g, k * 2, none⟩ = some (.int .i64 xk) ∧ wx.cell? ⟨g, k * 2 + 1, none⟩ = some (.int .i64 yk) := fun wx hx => by
        have a := (HP.out.on hx hg).2 i (by have := HN.out; omega)
        have b := (HP.out.on hx hg).2 k (by have := HN.out; omega)
        rw [← hpi] at a
        rw [← hpk] at b
        exact ⟨a.1, a.2, b.1, b.2⟩
      rw [← hpi] at s0 s1 si
      rw [← hpk] at t0 t1 sk
      dsimp only at s0 s1 t0 t1 si sk
      have RD := hid rd
      have HPI := hid hpi
      have HPK := hid hpk
      clear rd hpi hpk
      have i0' : (0 : Int) ≤ (i : Nat) := by omega
      have i1' : ((i : Nat) : Int) < (n : Nat) := by omega
      have k0' : (0 : Int) ≤ (k : Nat) := by omega
      have k1' : ((k : Nat) : Int) < (n : Nat) := by omega
      go_wp2_with fail
      go_region_held3 (fun w' => w'.cell? ⟨g, i * 2, none⟩ = some (.int .i64 xi) ∧ w'.cell? ⟨g, i * 2 + 1, none⟩ = some (.int .i64 yi) ∧ w'.cell? ⟨g, k * 2, none⟩ = some (.int .i64 xk) ∧ w'.cell? ⟨g, k * 2 + 1, none⟩ = some (.int .i64 yk))
        (first | exact ⟨s0, s1, t0, t1⟩ | exact RD.out _ B2.out)
        ((go_at_call 75; refine (ahead_any xi yi xk yk (by omega) (by omega) _).mono ?_; rintro e w2 ⟨rfl, hb2⟩; have B2 := hid (show Below w.heap.size w w2 from HB.out.trans (Below.trans (b := _) ((Below.refl _ _).drew) (hb2.mono (by have := HB.out.size; simp; omega)))); clear hb2))
      clear s0 s1 t0 t1
      cases ha : decide (keyP (xi, yi) < keyP (xk, yk))
      · go_wp2
        go_roundw
        case rel => exact ⟨k, i + 1, hk, by omega, rfl, by go_num, fun j hj => by
          rcases Nat.lt_or_ge j i with h1 | h1
          · exact hmin.out j h1
          · obtain rfl : j = i := by omega
            rw [← HPI.out, ← HPK.out]
            simp at ha; exact ha, B2.out⟩
        case measure => simp [intOf]; omega
      · go_wp2
        go_roundw
        case rel => exact ⟨i, i + 1, hlt, by omega, rfl, by go_num, fun j hj => by
          rcases Nat.lt_or_ge j i with h1 | h1
          · have := hmin.out j h1
            rw [← HPK.out] at this
            rw [← HPI.out]
            simp at ha; omega
          · obtain rfl : j = i := by omega
            exact Int.le_refl _, B2.out⟩
        case measure => simp [intOf]; omega
    · have e1 : i = n := by omega
      have hk0 : (0 : Int) ≤ (k : Nat) := by omega
      have hk1 : ((k : Nat) : Int) ≤ (n : Nat) := by omega
      have hc1 : ((n : Nat) : Int) ≤ (cap : Nat) := by omega
      have hc2 : ((k : Nat) : Int) ≤ (cap : Nat) := by omega
      have nw1 := hid ((HP.out.on HB.out hg).news k (n - k) (by have := HN.out; omega))
      have d1 : (l.drop k).take (n - k) = l.drop k := List.take_of_length_le (by have := HN.out; simp; omega)
      rw [d1] at nw1
      have l1 := hid (show (Qm.ptsV (l.drop k)).length = (n - k) * 2 by rw [Qm.ptsV_len]; simp; have := HN.out; omega)
      have l2 := hid (show (Qm.ptsV (l.take k)).length = k * 2 by rw [Qm.ptsV_len]; simp; have := HN.out; omega)
      have hsz := HB.out.size
      clear d1
      go_wp2_with (first
        | (at_builtin; refine wpList_append_own _ rfl _ _ 41 rfl w.heap.size 47 i0 (.agg #[.int .i64 0, .int .i64 0]) 2 16 Try.underlying41 hi hz0 hz1 hz2 rfl (by decide) _ _ _ rfl (World.ownsRow_nil _ _ _ _) ⟨g, k * 2, none⟩ (n - k) (cap - k) (Qm.ptsV (l.drop k)) rfl l1.out nw1.out (pts_one _) (by unfold maxLen; omega) (by omega) hsz ?_))
      intro v1 w1 o1 g1 _
      have B1 := hid (show Below w.heap.size w w1 from HB.out.grown g1 hsz (fun q hq => by simp [Value.ownBlock] at hq))
      have O1 := hid o1
      have hsz1 := B1.out.size
      clear o1 g1 nw1 HB
      have nw2 := hid ((HP.out.on B1.out hg).news 0 k (by have := HN.out; omega))
      simp only [List.drop_zero, Nat.zero_mul] at nw2
      go_wp2_with (first
        | (at_builtin; refine wpList_append_own _ rfl _ _ 41 rfl w.heap.size 47 i0 (.agg #[.int .i64 0, .int .i64 0]) 2 16 Try.underlying41 hi hz0 hz1 hz2 rfl (by decide) _ _ _ rfl O1.out ⟨g, 0, none⟩ k cap (Qm.ptsV (l.take k)) rfl l2.out nw2.out (pts_one _) (by unfold maxLen; omega) (by omega) hsz1 ?_))
      intro v2 w2 o2 g2 _
      have B2 := hid (show Below w.heap.size w w2 from B1.out.grown g2 hsz1 (fun q hq => (O1.out.lt q hq).1))
      have O2 := hid o2
      clear o2 g2
      go_wp2
      go_ret
      refine ⟨_, k, rfl, hk, fun j hj => hmin.out j (by omega), ?_, B2.out⟩
      have := O2.out
      rw [← ptsV_app, show n - k + k = n by omega] at this
      exact this
end Go.Proofs.Ytljfiefobnncaaa

/- outlineref.Twice. -/
namespace Go.Proofs.Ytljfiefobnncaaa
open Go.RowKit

set_option maxRecDepth 4000 in
set_option maxHeartbeats 2000000 in
theorem refTwice_big (g n cap : Nat) (l : List (Int × Int)) (hn : n = l.length) (h0 : 0 < n) (hs : Qm.Small l) (hn2 : n ≤ 140737488355328) (w : World) (hP : PtsAt g l w) :
    Calls Try.prog 56 #[.slice (some ⟨g, 0, none⟩) n cap] w fun e w' => e = .returned (.int .i64 (Qm.twiceOf l)) ∧ Below w.heap.size w w' := by
  have HP := hid hP
  have hg := hP.1
  have HN := hid hn
  have e0 : ((n : Int) == 0) = false := by simp; omega
  clear hP hn
  go_enter Try.func56, Try.ntmps56
  go_wp2
  go_loopw [3, 4] (fun sm i wr => ∃ k : Nat, k ≤ n ∧ i = .int .i64 k ∧ sm = .int .i64 (Qm.fsum l k) ∧ Below w.heap.size w wr) (fun _ i _ => n - (intOf i).toNat)
  case atStart => exact ⟨0, by omega, rfl, rfl, Below.refl _ _⟩
  case round =>
    obtain ⟨k, hk, rfl, rfl, hb⟩ := hrel
    have HB := hid hb
    have ts := Qm.fsum_small hs k
    by_cases hlt : k < n
    · obtain ⟨r, hr⟩ : ∃ r, r = (k + 1) % n := ⟨_, rfl⟩
      have hrn : r < n := by rw [hr]; exact Nat.mod_lt _ h0
      have er : ((k : Int) + 1) % (n : Int) = (r : Nat) := by rw [hr]; simp
      obtain ⟨r0, r1⟩ := (HP.out.on hb hg).2 k (by have := HN.out; omega)
      obtain ⟨q0, q1⟩ := (HP.out.on hb hg).2 r (by have := HN.out; omega)
      have sp := hs.at k
      have sq := hs.at r
      have E2 : Hid (Qm.fsum l (k + 1) = Qm.fsum l k + ((l.getD k (0, 0)).2 * (l.getD r (0, 0)).1 - (l.getD k (0, 0)).1 * (l.getD r (0, 0)).2)) := by rw [hr, HN.out]; rfl
      have m1 := Qm.mul_small sp.2.2.1 sp.2.2.2 sq.1 sq.2.1
      have m2 := Qm.mul_small sp.1 sp.2.1 sq.2.2.1 sq.2.2.2
      obtain ⟨⟨pa, pb⟩, hpp⟩ : ∃ p, p = l.getD k (0, 0) := ⟨_, rfl⟩
      obtain ⟨⟨qa, qb⟩, hqq⟩ : ∃ p, p = l.getD r (0, 0) := ⟨_, rfl⟩
      rw [← hpp] at r0 r1 m1 m2 sp E2
      rw [← hqq] at q0 q1 m1 m2 sq E2
      dsimp only at r0 r1 q0 q1 m1 m2 sp sq
      obtain ⟨u, hu⟩ : ∃ u, pb * qa = u := ⟨_, rfl⟩
      obtain ⟨z, hzz⟩ : ∃ z, pa * qb = z := ⟨_, rfl⟩
      rw [hu] at m1
      rw [hzz] at m2
      have hz := HB.out.size
      have b1 : (0 : Int) ≤ (r : Nat) := by omega
      have b2 : ((r : Nat) : Int) < (n : Nat) := by omega
      have hg2 : g < wr.heap.size := by omega
      clear hb hpp hqq hr
      go_wp2
      go_roundw
      case rel => exact ⟨k + 1, by omega, by go_num, by rw [E2.out]; dsimp only; rw [hu, hzz]; congr 1; omega, (HB.out.alloc hz _).alloc (by simp; omega) _⟩
      case measure => simp [intOf]; omega
    · have ek : k = n := by omega
      go_wp2
      go_ret
      exact ⟨ret_int (by rw [ek, HN.out]; exact (Qm.twiceOf_fsum l).symm), HB.out⟩

theorem refTwice_any (g n cap : Nat) (l : List (Int × Int)) (hn : n = l.length) (h0 : 0 < n) (hs : Qm.Small l) (hn2 : n ≤ 4356) (w : World) (hP : PtsAt g l w) :
    Calls Try.prog 56 #[.slice (some ⟨g, 0, none⟩) n cap] w fun e w' => e = .returned (.int .i64 (Qm.twiceOf l)) ∧ Below w.heap.size w w' :=
  refTwice_big g n cap l hn h0 hs (by omega) w hP

end Go.Proofs.Ytljfiefobnncaaa

/- outlineref.sorted. -/
namespace Go.Proofs.Ytljfiefobnncaaa
open Go.RowKit
attribute [local go_sem ↓] Go.wp_at_zero Go.wp_at_succ

/-- A shape: where its points are, twice its area; and its first point. -/
abbrev Ent : Type := Value × Int × (Int × Int)
def entV (L : List Ent) : List Value := L.flatMap fun e => [e.1, .int .i64 e.2.1]
theorem entV_app (a b : List Ent) : entV (a ++ b) = entV a ++ entV b := by simp [entV]
theorem entV_len (L : List Ent) : (entV L).length = L.length * 2 := by
  induction L with
  | nil => rfl
  | cons p l ih => simp only [entV, List.flatMap_cons, List.length_append] at *; rw [ih]; simp; omega
theorem entV_at (L : List Ent) (e0 : Ent) : ∀ j, j < L.length → (entV L)[j * 2]? = some (L.getD j e0).1 ∧ (entV L)[j * 2 + 1]? = some (.int .i64 (L.getD j e0).2.1) := by
  induction L with
  | nil => intro j hj; simp at hj
  | cons p l ih =>
    intro j hj
    cases j with
    | zero => simp [entV]
    | succ j =>
      have := ih j (by simpa using hj)
      have e : entV (p :: l) = p.1 :: .int .i64 p.2.1 :: entV l := by simp [entV]
      rw [e, show (j + 1) * 2 = j * 2 + 1 + 1 from by omega, show j * 2 + 1 + 1 + 1 = (j * 2 + 1) + 1 + 1 from by omega]
      simpa using this

/-- The points of v begin with p. -/
def HeadAt (v : Value) (p : Int × Int) (w : World) : Prop := ∃ g n cap, v = .slice (some ⟨g, 0, none⟩) n cap ∧ 0 < n ∧ g < w.heap.size ∧ w.cell? ⟨g, 0, none⟩ = some (.int .i64 p.1) ∧ w.cell? ⟨g, 1, none⟩ = some (.int .i64 p.2)
/-- The row of shapes stands, with the first point of each. -/
structure EntsAt (gl : Nat) (L : List Ent) (w : World) : Prop where
  lt : gl < w.heap.size
  cells : ∀ j e0, j < L.length → w.cell? ⟨gl, j * 2, none⟩ = some (L.getD j e0).1 ∧ w.cell? ⟨gl, j * 2 + 1, none⟩ = some (.int .i64 (L.getD j e0).2.1)
  heads : ∀ e ∈ L, HeadAt e.1 e.2.2 w ∧ 0 ≤ e.2.2.1 ∧ e.2.2.1 ≤ 32
theorem HeadAt.on {v : Value} {p : Int × Int} {w w' : World} (h : HeadAt v p w) (hb : Below w.heap.size w w') : HeadAt v p w' := by
  obtain ⟨g, n, cap, e, h0, hg, c0, c1⟩ := h
  exact ⟨g, n, cap, e, h0, Nat.lt_of_lt_of_le hg hb.size, (hb.cell (p := ⟨g, 0, none⟩) hg).trans c0, (hb.cell (p := ⟨g, 1, none⟩) hg).trans c1⟩
theorem EntsAt.on {gl : Nat} {L : List Ent} {w w' : World} (h : EntsAt gl L w) (hb : Below w.heap.size w w') : EntsAt gl L w' :=
  ⟨Nat.lt_of_lt_of_le h.lt hb.size, fun j e0 hj => ⟨(hb.cell (p := ⟨gl, j * 2, none⟩) h.lt).trans (h.cells j e0 hj).1, (hb.cell (p := ⟨gl, j * 2 + 1, none⟩) h.lt).trans (h.cells j e0 hj).2⟩, fun e he => ⟨(h.heads e he).1.on hb, (h.heads e he).2⟩⟩

/-- What has been laid behind i of them: before the new one has its place, and behind. -/
def InsAt (L : List Ent) (e0 : Ent) (i : Nat) (b : Bool) (out : List Ent) : Prop :=
  (b = false ∧ out = L.take i ∧ ∀ j, j < i → ¬ keyP e0.2.2 < keyP (L.getD j e0).2.2) ∨
  (b = true ∧ ∃ j, j < i ∧ j < L.length ∧ out = L.take j ++ e0 :: (L.drop j).take (i - j) ∧ (∀ m, m < j → ¬ keyP e0.2.2 < keyP (L.getD m e0).2.2) ∧ keyP e0.2.2 < keyP (L.getD j e0).2.2)
theorem take_getD (L : List Ent) (e0 : Ent) (i : Nat) (h : i < L.length) : L.take (i + 1) = L.take i ++ [L.getD i e0] := by
  rw [List.take_succ_eq_append_getElem h, List.getD_eq_getElem?_getD, List.getElem?_eq_getElem h]; rfl
theorem drop_take_getD (L : List Ent) (e0 : Ent) (j i : Nat) (hj : j ≤ i) (h : i < L.length) : (L.drop j).take (i + 1 - j) = (L.drop j).take (i - j) ++ [L.getD i e0] := by
  rw [show i + 1 - j = (i - j) + 1 from by omega, List.take_succ_eq_append_getElem (by simp; omega)]
  congr 1
  rw [List.getD_eq_getElem?_getD, List.getElem?_eq_getElem h, List.getElem_drop]
  simp only [Option.getD_some, List.cons.injEq, and_true]
  congr 1; omega
/-- The new one comes first. -/
theorem InsAt.put {L : List Ent} {e0 : Ent} {i : Nat} {out : List Ent} (h : InsAt L e0 i false out) (hi : i < L.length) (ha : keyP e0.2.2 < keyP (L.getD i e0).2.2) : InsAt L e0 (i + 1) true (out ++ [e0] ++ [L.getD i e0]) := by
  rcases h with ⟨_, rfl, h3⟩ | ⟨h1, _⟩
  · refine .inr ⟨rfl, i, by omega, hi, ?_, h3, ha⟩
    rw [drop_take_getD L e0 i i (Nat.le_refl _) hi]
    simp
  · cases h1
theorem InsAt.go {L : List Ent} {e0 : Ent} {i : Nat} {b : Bool} {out : List Ent} (h : InsAt L e0 i b out) (hi : i < L.length) (ha : b = true ∨ ¬ keyP e0.2.2 < keyP (L.getD i e0).2.2) : InsAt L e0 (i + 1) b (out ++ [L.getD i e0]) := by
  rcases h with ⟨rfl, rfl, h3⟩ | ⟨rfl, j, h1, h2, rfl, h3, h4⟩
  · refine .inl ⟨rfl, (take_getD L e0 i hi).symm, fun j hj => ?_⟩
    rcases Nat.lt_or_ge j i with h5 | h5
    · exact h3 j h5
    · obtain rfl : j = i := by omega
      exact ha.resolve_left (by simp)
  · refine .inr ⟨rfl, j, by omega, h2, ?_, h3, h4⟩
    rw [drop_take_getD L e0 j i (by omega) hi]
    simp
/-- The whole, with the new one in its place. -/
def InsOut (L : List Ent) (e0 : Ent) (out : List Ent) : Prop := ∃ j, j ≤ L.length ∧ out = L.take j ++ e0 :: L.drop j ∧ (∀ m, m < j → ¬ keyP e0.2.2 < keyP (L.getD m e0).2.2) ∧ (j < L.length → keyP e0.2.2 < keyP (L.getD j e0).2.2)
theorem InsAt.done {L : List Ent} {e0 : Ent} {out : List Ent} (h : InsAt L e0 L.length true out) : InsOut L e0 out := by
  rcases h with ⟨h1, _⟩ | ⟨_, j, h1, h2, rfl, h3, h4⟩
  · cases h1
  · exact ⟨j, by omega, by rw [List.take_of_length_le (l := L.drop j) (by simp)], h3, fun _ => h4⟩
theorem InsAt.last {L : List Ent} {e0 : Ent} {out : List Ent} (h : InsAt L e0 L.length false out) : InsOut L e0 (out ++ [e0]) := by
  rcases h with ⟨_, rfl, h3⟩ | ⟨h1, _⟩
  · exact ⟨L.length, Nat.le_refl _, by simp, h3, fun h => by omega⟩
  · cases h1
end Go.Proofs.Ytljfiefobnncaaa
