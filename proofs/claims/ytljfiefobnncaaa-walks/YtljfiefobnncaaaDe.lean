/- outlineref.after. -/
import Derived.Test.YtljfiefobnncaaaDd
import Derived.Test.YtljfiefobnncaaaQg
namespace Go.Proofs.Ytljfiefobnncaaa
open Go.RowKit
attribute [local go_sem ↓] Go.wp_at_zero Go.wp_at_succ

/-- The sides of a row stand at block g. -/
def SdsAt (g : Nat) (l : List Qm.Sd) (w : World) : Prop := g < w.heap.size ∧ ∀ j, j < l.length → w.cell? ⟨g, j * 4, none⟩ = some (.int .i64 (l.getD j (0, 0, 0)).1) ∧ w.cell? ⟨g, j * 4 + 1, none⟩ = some (.int .i64 (l.getD j (0, 0, 0)).2.1) ∧
  w.cell? ⟨g, j * 4 + 2, none⟩ = some (.int .i64 (Qm.en (l.getD j (0, 0, 0))).1) ∧ w.cell? ⟨g, j * 4 + 3, none⟩ = some (.int .i64 (Qm.en (l.getD j (0, 0, 0))).2)
theorem SdsAt.on {g : Nat} {l : List Qm.Sd} {w w' : World} {B : Nat} (h : SdsAt g l w) (hb : Below B w w') (hg : g < B) : SdsAt g l w' :=
  ⟨Nat.lt_of_lt_of_le h.1 hb.size, fun j hj => ⟨(hb.cell (p := ⟨g, j * 4, none⟩) hg).trans (h.2 j hj).1, (hb.cell (p := ⟨g, j * 4 + 1, none⟩) hg).trans (h.2 j hj).2.1, (hb.cell (p := ⟨g, j * 4 + 2, none⟩) hg).trans (h.2 j hj).2.2.1, (hb.cell (p := ⟨g, j * 4 + 3, none⟩) hg).trans (h.2 j hj).2.2.2⟩⟩

/-- The two boxes that 'after' lays stand. -/
def Bb (B W H : Nat) (s : ByteArray) (pol : Nat) (draws : ByteArray) (spk : Int) (w wr : World) : Prop :=
  wr.cell? ⟨B, 0, none⟩ = some (.int .i64 W) ∧ wr.cell? ⟨B, 1, none⟩ = some (.int .i64 H) ∧ wr.cell? ⟨B, 2, none⟩ = some (.string s) ∧ wr.cell? ⟨B + 1, 0, none⟩ = some (.int .i64 pol) ∧ wr.cell? ⟨B + 1, 1, none⟩ = some (.string draws) ∧ wr.cell? ⟨B + 1, 2, none⟩ = some (.int .i64 spk) ∧ Below B w wr ∧ B + 1 < wr.heap.size
theorem Bb.on {B W H : Nat} {s : ByteArray} {pol : Nat} {draws : ByteArray} {spk : Int} {w wr w2 : World} (h : Bb B W H s pol draws spk w wr) (hb : Below wr.heap.size wr w2) : Bb B W H s pol draws spk w w2 := by
  obtain ⟨c0, c1, c2, c3, c4, c5, hn, hz⟩ := h
  have hz' : B < wr.heap.size := by omega
  exact ⟨(hb.cell (p := ⟨B, 0, none⟩) hz').trans c0, (hb.cell (p := ⟨B, 1, none⟩) hz').trans c1, (hb.cell (p := ⟨B, 2, none⟩) hz').trans c2, (hb.cell (p := ⟨B + 1, 0, none⟩) hz).trans c3, (hb.cell (p := ⟨B + 1, 1, none⟩) hz).trans c4, (hb.cell (p := ⟨B + 1, 2, none⟩) hz).trans c5, hn.trans (hb.mono (Nat.le_of_lt hz')), Nat.lt_of_lt_of_le hz hb.size⟩
theorem Bb.drewN {B W H : Nat} {s : ByteArray} {pol : Nat} {draws : ByteArray} {spk : Int} {w wr : World} (h : Bb B W H s pol draws spk w wr) (n : Nat) : Bb B W H s pol draws spk w (wr.drewN n) := h.on ⟨rfl, rfl, rfl, Nat.le_refl _, fun _ _ => rfl⟩

theorem Bb.drawn {B W H : Nat} {s : ByteArray} {pol : Nat} {draws : ByteArray} {spk : Int} {w wr w2 : World} (h : Bb B W H s pol draws spk w wr) (hb : Below wr.drew.heap.size wr.drew w2) : Bb B W H s pol draws spk w w2 := Bb.on (wr := wr.drew) (h.on ((Below.refl _ _).drew)) hb

theorem bend_raw (x y : Int) (d : Nat) (x' y' : Int) (d' : Nat) (ex ey ex' ey' : Int) (he : Qm.en (x, y, d) = (ex, ey)) (he' : Qm.en (x', y', d') = (ex', ey')) (hd : d < 4) (hd' : d' < 4) (w : World) :
    Calls Try.prog 74 #[.agg #[.int .i64 x, .int .i64 y, .int .i64 ex, .int .i64 ey], .agg #[.int .i64 x', .int .i64 y', .int .i64 ex', .int .i64 ey']] w fun e w' => e = .returned (.int .i64 (bendD d d')) ∧ Below w.heap.size w w' := by
  have := bend_any x y d x' y' d' hd hd' w
  simpa only [sdV, he, he'] using this

set_option maxHeartbeats 2000000 in
theorem after_any (W H : Nat) (s : ByteArray) (pol : Nat) (draws : ByteArray) (spk : Int) (gl n cap i kf : Nat) (SL : List Qm.Sd) (w : World) (hw2 : W ≤ 32) (hh2 : H ≤ 32) (hl : s.size = W * H) (hp : pol ≤ 3)
    (hn : n = SL.length) (hn2 : n ≤ 4096) (hall : ∀ j, j < SL.length → Qm.isS (Pm.blackB W H s.data.toList) (SL.getD j (0, 0, 0)) = true) (hnd : ∀ i j, i < SL.length → j < SL.length → SL.getD i (0, 0, 0) = SL.getD j (0, 0, 0) → i = j)
    (hi : i < SL.length) (hkf : kf < SL.length) (ef : SL.getD kf (0, 0, 0) = fB W H s pol draws (SL.getD i (0, 0, 0))) (hS : SdsAt gl SL w) :
    Calls Try.prog 53 #[.agg #[.int .i64 W, .int .i64 H, .string s], .agg #[.int .i64 pol, .string draws, .int .i64 spk], .slice (some ⟨gl, 0, none⟩) n cap, .int .i64 i] w fun e w' => e = .returned (.int .i64 kf) ∧ Below w.heap.size w w' := by
  have HL := hid hl
  have HN := hid hn
  have HALL := hid hall
  have HND := hid hnd
  have EF := hid ef
  have HS := hid hS
  have hgl := hS.1
  have hi' : i < n := by omega
  have hkf' : kf < n := by omega
  obtain ⟨px, py, he, hpx, hpy, -⟩ := en_nat (pol := pol) (draws := draws) hw2 hh2 (hall i hi)
  have HE := hid he
  clear hl hn hall hnd ef hS he
  go_enter Try.func53, Try.ntmps53
  go_wp2
  go_loopw [9, 10] (fun bv kv wr => ∃ (k : Nat) (bi : Int), k ≤ n ∧ kv = .int .i64 k ∧ bv = .int .i64 bi ∧ -1 ≤ bi ∧ bi < n ∧ Hid (Best SL (Qm.en (SL.getD i (0, 0, 0))) kf k bi) ∧
    Hid (Bb w.heap.size W H s pol draws spk w wr)) (fun _ k _ => n - (intOf k).toNat)
  case atStart => exact ⟨0, -1, by omega, rfl, rfl, by omega, by omega, .inl ⟨rfl, by omega⟩, ⟨by simp, by simp, by simp, by simp [go_sem], by simp [go_sem], by simp [go_sem], by go_grown, by simp⟩⟩
  case round =>
    obtain ⟨k, bi, hk, rfl, rfl, hb1, hb2, hB, hI⟩ := hrel
    by_cases hlt : k < n
    · obtain ⟨s0, s1, s2, s3⟩ := (HS.out.on hI.out.2.2.2.2.2.2.1 hgl).2 k (by have := HN.out; omega)
      obtain ⟨t0, t1, t2, t3⟩ := (HS.out.on hI.out.2.2.2.2.2.2.1 hgl).2 i (by have := HN.out; omega)
      rw [HE.out] at t2 t3
      have hk0 : (0 : Int) ≤ (k : Nat) := by omega
      have hk1 : ((k : Nat) : Int) < (n : Nat) := by omega
      have hi0 : (0 : Int) ≤ (i : Nat) := by omega
      have hi1 : ((i : Nat) : Int) < (n : Nat) := by omega
      obtain ⟨⟨xk, yk, dk⟩, hSk⟩ : ∃ t, t = SL.getD k (0, 0, 0) := ⟨_, rfl⟩
      obtain ⟨⟨xi, yi, di⟩, hSi⟩ : ∃ t, t = SL.getD i (0, 0, 0) := ⟨_, rfl⟩
      rw [← hSk] at s0 s1 s2 s3
      rw [← hSi] at t0 t1
      dsimp only at s0 s1 t0 t1
      have HSk := hid hSk
      have HSi := hid hSi
      have HP0 := hid (show Qm.fromP (SL.getD kf (0, 0, 0)) = Qm.en (SL.getD i (0, 0, 0)) by rw [EF.out]; rfl)
      clear hSk hSi
      by_cases eq : xk = px ∧ yk = py
      · obtain ⟨rfl, rfl⟩ := eq
        have HPK := hid (show Qm.fromP (SL.getD k (0, 0, 0)) = Qm.en (SL.getD i (0, 0, 0)) by rw [← HSk.out, HE.out]; rfl)
        go_wp2_with fail
        go_quiet (fail)
        by_cases bn : bi < 0
        · go_wp2
          go_roundw
          case rel => exact ⟨k + 1, k, by omega, by go_num, rfl, by omega, by omega, hB.out.first bn HPK.out, hid (hI.out.drewN _)⟩
          case measure => simp [intOf]; omega
        · obtain ⟨b, rfl⟩ : ∃ b : Nat, bi = b := ⟨bi.toNat, by omega⟩
          have M := Best.more HALL.out HND.out (HALL.out i (by have := HN.out; omega)) (by have := HN.out; omega) EF.out (by have := HN.out; omega) hB.out HPK.out
          have hbk := M.1
          have HM := hid M.2
          have I1 := hid (hI.out.drewN nq)
          have S1 := hid (HS.out.on I1.out.2.2.2.2.2.2.1 hgl)
          have ebn : ((b : Nat) : Int) < (n : Nat) := by omega
          have eb0 : (0 : Int) ≤ (b : Nat) := by omega
          obtain ⟨⟨xb, yb, db⟩, hSb⟩ : ∃ t, t = SL.getD b (0, 0, 0) := ⟨_, rfl⟩
          have HSb := hid hSb
          clear M hSb s0 s1 s2 s3 t0 t1 t2 t3 hb1 hb2 bn
          revert I1 S1
          generalize World.drewN wr nq = W0
          intro I1 S1
          have di4 := Qm.isS_lt (HALL.out i (by have := HN.out; omega))
          have dk4 := Qm.isS_lt (HALL.out k (by have := HN.out; omega))
          have db4 := Qm.isS_lt (HALL.out b (by have := HN.out; omega))
          rw [← HSi.out] at di4
          rw [← HSk.out] at dk4
          rw [← HSb.out] at db4
          dsimp only at di4 dk4 db4
          have rd : ∀ (wx : World), Bb w.heap.size W H s pol draws spk w wx → ∀ j, j < n → (wx.cell? ⟨gl, j * 4, none⟩ = some (.int .i64 (SL.getD j (0, 0, 0)).1) ∧ wx.cell? ⟨gl, j * 4 + 1, none⟩ = some (.int .i64 (SL.getD j (0, 0, 0)).2.1) ∧ wx.cell? ⟨gl, j * 4 + 2, none⟩ = some (.int .i64 (Qm.en (SL.getD j (0, 0, 0))).1) ∧ wx.cell? ⟨gl, j * 4 + 3, none⟩ = some (.int .i64 (Qm.en (SL.getD j (0, 0, 0))).2)) := fun _ hx j hj => (HS.out.on hx.2.2.2.2.2.2.1 hgl).2 j (by have := HN.out; omega)
          have ri : ∀ (wx : World), Bb w.heap.size W H s pol draws spk w wx → (wx.cell? ⟨gl, i * 4, none⟩ = some (.int .i64 xi) ∧ wx.cell? ⟨gl, i * 4 + 1, none⟩ = some (.int .i64 yi) ∧ wx.cell? ⟨gl, i * 4 + 2, none⟩ = some (.int .i64 px) ∧ wx.cell? ⟨gl, i * 4 + 3, none⟩ = some (.int .i64 py)) := fun _ hx => by
            have := rd _ hx i hi'
            rw [HE.out, ← HSi.out] at this
            exact this
          have HEi := hid (show Qm.en (xi, yi, di) = ((px : Int), (py : Int)) by rw [HSi.out]; exact HE.out)
          obtain ⟨⟨exk, eyk⟩, hek⟩ : ∃ t, t = Qm.en (SL.getD k (0, 0, 0)) := ⟨_, rfl⟩
          obtain ⟨⟨exb, eyb⟩, heb⟩ : ∃ t, t = Qm.en (SL.getD b (0, 0, 0)) := ⟨_, rfl⟩
          have HEk := hid (show Qm.en ((px : Int), (py : Int), dk) = (exk, eyk) by rw [hek, ← HSk.out])
          have HEb := hid (show Qm.en (xb, yb, db) = (exb, eyb) by rw [heb, ← HSb.out])
          have rk : ∀ (wx : World), Bb w.heap.size W H s pol draws spk w wx → (wx.cell? ⟨gl, k * 4, none⟩ = some (.int .i64 px) ∧ wx.cell? ⟨gl, k * 4 + 1, none⟩ = some (.int .i64 py) ∧ wx.cell? ⟨gl, k * 4 + 2, none⟩ = some (.int .i64 exk) ∧ wx.cell? ⟨gl, k * 4 + 3, none⟩ = some (.int .i64 eyk)) := fun _ hx => by
            have := rd _ hx k hlt
            rw [← hek, ← HSk.out] at this
            exact this
          have rb : ∀ (wx : World), Bb w.heap.size W H s pol draws spk w wx → (wx.cell? ⟨gl, b * 4, none⟩ = some (.int .i64 xb) ∧ wx.cell? ⟨gl, b * 4 + 1, none⟩ = some (.int .i64 yb) ∧ wx.cell? ⟨gl, b * 4 + 2, none⟩ = some (.int .i64 exb) ∧ wx.cell? ⟨gl, b * 4 + 3, none⟩ = some (.int .i64 eyb)) := fun _ hx => by
            have := rd _ hx b (by omega)
            rw [← heb, ← HSb.out] at this
            exact this
          clear rd hek heb S1
          have RI := hid ri
          have RK := hid rk
          have RB := hid rb
          clear ri rk rb
          obtain ⟨c0, c1, c2, c3, c4, c5, -, hz⟩ := I1.out
          obtain ⟨t0, t1, t2, t3⟩ := RI.out _ I1.out
          go_wp2_with fail
          go_region_held3 (fun w' => w'.cell? ⟨w.heap.size, 0, none⟩ = some (.int .i64 W) ∧ w'.cell? ⟨w.heap.size, 1, none⟩ = some (.int .i64 H) ∧ w'.cell? ⟨w.heap.size, 2, none⟩ = some (.string s) ∧ w'.cell? ⟨w.heap.size + 1, 0, none⟩ = some (.int .i64 pol) ∧ w'.cell? ⟨w.heap.size + 1, 1, none⟩ = some (.string draws) ∧ w'.cell? ⟨w.heap.size + 1, 2, none⟩ = some (.int .i64 spk) ∧ w'.cell? ⟨gl, i * 4 + 2, none⟩ = some (.int .i64 px) ∧ w'.cell? ⟨gl, i * 4 + 3, none⟩ = some (.int .i64 py))
            (first | exact ⟨c0, c1, c2, c3, c4, c5, t2, t3⟩ | (have hq := I2.out; have hr := RI.out _ hq; exact ⟨hq.1, hq.2.1, hq.2.2.1, hq.2.2.2.1, hq.2.2.2.2.1, hq.2.2.2.2.2.1, hr.2.2.1, hr.2.2.2⟩))
            ((go_at_call 73; refine (refJoins_any W H s pol draws spk px py hp (by omega) (by omega) _ hw2 hh2 HL.out).mono ?_; rintro e w2 ⟨rfl, hb⟩; have I2 := hid (I1.out.drawn hb); clear hb))
          clear c0 c1 c2 c3 c4 c5 hz t0 t1 t2 t3
          obtain ⟨t0, t1, t2, t3⟩ := RI.out _ I2.out
          obtain ⟨u0, u1, u2, u3⟩ := RB.out _ I2.out
          go_wp2_with fail
          go_region_held3 (fun w' => w'.cell? ⟨gl, i * 4, none⟩ = some (.int .i64 xi) ∧ w'.cell? ⟨gl, i * 4 + 1, none⟩ = some (.int .i64 yi) ∧ w'.cell? ⟨gl, i * 4 + 2, none⟩ = some (.int .i64 px) ∧ w'.cell? ⟨gl, i * 4 + 3, none⟩ = some (.int .i64 py) ∧ w'.cell? ⟨gl, b * 4, none⟩ = some (.int .i64 xb) ∧ w'.cell? ⟨gl, b * 4 + 1, none⟩ = some (.int .i64 yb) ∧ w'.cell? ⟨gl, b * 4 + 2, none⟩ = some (.int .i64 exb) ∧ w'.cell? ⟨gl, b * 4 + 3, none⟩ = some (.int .i64 eyb))
            (first | exact ⟨t0, t1, t2, t3, u0, u1, u2, u3⟩ | (have hr := RI.out _ I3.out; have hs := RB.out _ I3.out; exact ⟨hr.1, hr.2.1, hr.2.2.1, hr.2.2.2, hs.1, hs.2.1, hs.2.2.1, hs.2.2.2⟩))
            ((go_at_call 74; refine (bend_raw xi yi di xb yb db px py exb eyb HEi.out HEb.out di4 db4 _).mono ?_; rintro e w3 ⟨rfl, hb⟩; have I3 := hid (I2.out.drawn hb); clear hb))
          clear t0 t1 t2 t3 u0 u1 u2 u3
          obtain ⟨t0, t1, t2, t3⟩ := RI.out _ I3.out
          obtain ⟨u0, u1, u2, u3⟩ := RK.out _ I3.out
          go_wp2_with fail
          go_region_held3 (fun w' => w'.cell? ⟨gl, i * 4, none⟩ = some (.int .i64 xi) ∧ w'.cell? ⟨gl, i * 4 + 1, none⟩ = some (.int .i64 yi) ∧ w'.cell? ⟨gl, i * 4 + 2, none⟩ = some (.int .i64 px) ∧ w'.cell? ⟨gl, i * 4 + 3, none⟩ = some (.int .i64 py) ∧ w'.cell? ⟨gl, k * 4, none⟩ = some (.int .i64 px) ∧ w'.cell? ⟨gl, k * 4 + 1, none⟩ = some (.int .i64 py) ∧ w'.cell? ⟨gl, k * 4 + 2, none⟩ = some (.int .i64 exk) ∧ w'.cell? ⟨gl, k * 4 + 3, none⟩ = some (.int .i64 eyk))
            (first | exact ⟨t0, t1, t2, t3, u0, u1, u2, u3⟩ | (have hr := RI.out _ I4.out; have hs := RK.out _ I4.out; exact ⟨hr.1, hr.2.1, hr.2.2.1, hr.2.2.2, hs.1, hs.2.1, hs.2.2.1, hs.2.2.2⟩))
            ((go_at_call 74; refine (bend_raw xi yi di px py dk px py exk eyk HEi.out HEk.out di4 dk4 _).mono ?_; rintro e w4 ⟨rfl, hb⟩; have I4 := hid (I3.out.drawn hb); clear hb))
          clear t0 t1 t2 t3 u0 u1 u2 u3
          have HM2 : Hid (∀ r, winB (Qm.jnB W H s.data.toList pol draws.data.toList px py) (bendD di db) (bendD di dk) = r → Best SL (Qm.en (SL.getD i (0, 0, 0))) kf (k + 1) (if r then k else b)) := by
            have h := HM.out
            rw [HE.out, ← HSi.out, ← HSb.out, ← HSk.out] at h
            rw [HE.out]
            exact h
          generalize bendD di db = old at *
          generalize bendD di dk = now at *
          cases hj : Qm.jnB W H s.data.toList pol draws.data.toList px py
          · rw [hj] at HM2
            by_cases cn : now < old
            · have HB2 := hid (HM2.out true (by simp [winB, cn]))
              go_wp2
              go_roundw
              case rel => exact ⟨k + 1, k, by omega, by go_num, rfl, by omega, by omega, HB2, I4⟩
              case measure => simp [intOf]; omega
            · have dn : decide (now < old) = false := by simp; omega
              have HB2 := hid (HM2.out false (by simp [winB]; omega))
              go_wp2
              go_roundw
              case rel => exact ⟨k + 1, b, by omega, by go_num, rfl, by omega, by omega, HB2, I4⟩
              case measure => simp [intOf]; omega
          · rw [hj] at HM2
            by_cases cn : old < now
            · have HB2 := hid (HM2.out true (by simp [winB, cn]))
              go_wp2
              go_roundw
              case rel => exact ⟨k + 1, k, by omega, by go_num, rfl, by omega, by omega, HB2, I4⟩
              case measure => simp [intOf]; omega
            · have dn : decide (old < now) = false := by simp; omega
              have HB2 := hid (HM2.out false (by simp [winB]; omega))
              go_wp2
              go_roundw
              case rel => exact ⟨k + 1, b, by omega, by go_num, rfl, by omega, by omega, HB2, I4⟩
              case measure => simp [intOf]; omega
      · have HNE := hid (show Qm.fromP (SL.getD k (0, 0, 0)) ≠ Qm.en (SL.getD i (0, 0, 0)) by rw [← HSk.out, HE.out]; intro e; exact eq ⟨congrArg Prod.fst e, congrArg Prod.snd e⟩)
        by_cases e1 : xk = px
        · have e2 : (yk == (py : Int)) = false := by simp; exact fun e => eq ⟨e1, e⟩
          subst e1
          clear eq
          go_wp2_with fail
          go_quiet (fail)
          go_wp2
          go_roundw
          case rel => exact ⟨k + 1, bi, by omega, by go_num, rfl, hb1, hb2, hB.out.skip HP0.out HNE.out, hid (hI.out.drewN _)⟩
          case measure => simp [intOf]; omega
        · have e2 : (xk == (px : Int)) = false := by simp; exact e1
          clear eq
          go_wp2_with fail
          go_quiet (fail)
          go_wp2
          go_roundw
          case rel => exact ⟨k + 1, bi, by omega, by go_num, rfl, hb1, hb2, hB.out.skip HP0.out HNE.out, hid (hI.out.drewN _)⟩
          case measure => simp [intOf]; omega
    · go_wp2
      go_ret
      exact ⟨ret_int (by have := hB.out; rw [show k = SL.length by have := HN.out; omega] at this; exact this.done (by have := HN.out; omega)), hI.out.2.2.2.2.2.2.1⟩
end Go.Proofs.Ytljfiefobnncaaa
