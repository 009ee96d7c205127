import Derived.Test.YtgapfjjdccohkaaJfitting09
import Derived.Test.YtgapfjjdccohkaaJfitting03

/- outlinekeep: step, twice. -/
namespace Go.Proofs.Ytgapfjjdccohkaa
open Go.RowKit

set_option maxHeartbeats 1000000 in
theorem step_any (g n cap i : Nat) (tw : Int) (l : List (Int × Int)) (hn : n = l.length) (hi : i < n) (hn2 : n ≤ 4356) (w : World) (hP : PtsAt g l w) :
    Calls Try.prog 18 #[.agg #[.slice (some ⟨g, 0, none⟩) n cap, .int .i64 tw], .int .i64 i] w fun e w' => e = .returned (.tuple #[.agg #[.int .i64 (l.getD i (0, 0)).1, .int .i64 (l.getD i (0, 0)).2], .agg #[.int .i64 (l.getD ((i + 1) % l.length) (0, 0)).1, .int .i64 (l.getD ((i + 1) % l.length) (0, 0)).2]]) ∧ Below w.heap.size w w' := by
  have hg := hP.1
  have g1 : g < w.heap.size + 1 := by omega
  have g2 : g < w.heap.size + 1 + 1 := by omega
  have g3 : ¬ g = w.heap.size := by omega
  have g4 : ¬ g = w.heap.size + 1 := by omega
  have g5 : ¬ g = w.heap.size + 1 + 1 := by omega
  obtain ⟨a0, a1⟩ := hP.2 i (by omega)
  obtain ⟨z0, z1⟩ := hP.2 0 (by omega)
  obtain ⟨⟨pa, pb⟩, hpp⟩ : ∃ p, l.getD i (0, 0) = p := ⟨_, rfl⟩
  obtain ⟨⟨za, zb⟩, hzz⟩ : ∃ p, l.getD 0 (0, 0) = p := ⟨_, rfl⟩
  rw [hpp] at a0 a1 ⊢
  rw [hzz] at z0 z1
  by_cases h1 : i + 1 < n
  · obtain ⟨c0, c1⟩ := hP.2 (i + 1) (by omega)
    rw [Nat.mod_eq_of_lt (by omega)]
    obtain ⟨⟨qa, qb⟩, hqq⟩ : ∃ p, l.getD (i + 1) (0, 0) = p := ⟨_, rfl⟩
    rw [hqq] at c0 c1 ⊢
    have h1' : (i : Int) + 1 < n := by omega
    have h2' : (0 : Int) ≤ (i : Int) + 1 := by omega
    have h3' : IntKind.i64.wrap ((i : Int) + 1) = (i : Int) + 1 := by rw [IntKind.wrap_i64]; omega
    have h4' : ((i : Int) + 1).toNat = i + 1 := by omega
    clear hP hpp hzz hqq hn z0 z1
    dsimp only at a0 a1 c0 c1 ⊢
    go_enter Try.func18, Try.ntmps18
    go_wp2
    go_region_held3 (fun w' => w'.cell? ⟨w.heap.size + 1 + 1 + 1, 0, none⟩ = some (.int .i64 pa) ∧ w'.cell? ⟨w.heap.size + 1 + 1 + 1, 1, none⟩ = some (.int .i64 pb) ∧ w'.cell? ⟨w.heap.size, 0, none⟩ = some (.slice (some ⟨g, 0, none⟩) n cap) ∧ w'.cell? ⟨g, (i + 1) * 2, none⟩ = some (.int .i64 qa) ∧ w'.cell? ⟨g, (i + 1) * 2 + 1, none⟩ = some (.int .i64 qb))
      (first | (simp [go_sem, *]; done) | (go_keep))
      (fail)
    all_goals go_wp2
    all_goals (refine bodyPost_ret (v := .tuple #[.agg #[.int .i64 pa, .int .i64 pb], .agg #[.int .i64 qa, .int .i64 qb]]) (by simp [results, Try.results18, go_sem]) rfl ?_)
    all_goals exact ⟨rfl, by go_grown⟩
  · rw [show (i + 1) % l.length = 0 from by rw [show i + 1 = l.length from by omega, Nat.mod_self], hzz]
    have h1' : ¬ (i : Int) + 1 < n := by omega
    have h2' : (0 : Int) < n := by omega
    have h3' : 0 < n := by omega
    clear hP hpp hzz hn
    dsimp only at a0 a1 z0 z1 ⊢
    go_enter Try.func18, Try.ntmps18
    go_wp2
    go_region_held3 (fun w' => w'.cell? ⟨w.heap.size + 1 + 1 + 1, 0, none⟩ = some (.int .i64 pa) ∧ w'.cell? ⟨w.heap.size + 1 + 1 + 1, 1, none⟩ = some (.int .i64 pb) ∧ w'.cell? ⟨w.heap.size, 0, none⟩ = some (.slice (some ⟨g, 0, none⟩) n cap) ∧ w'.cell? ⟨g, 0, none⟩ = some (.int .i64 za) ∧ w'.cell? ⟨g, 1, none⟩ = some (.int .i64 zb))
      (first | (simp [go_sem, *]; done) | (go_keep))
      (fail)
    all_goals go_wp2
    all_goals (refine bodyPost_ret (v := .tuple #[.agg #[.int .i64 pa, .int .i64 pb], .agg #[.int .i64 za, .int .i64 zb]]) (by simp [results, Try.results18, go_sem]) rfl ?_)
    all_goals exact ⟨rfl, by go_grown⟩
end Go.Proofs.Ytgapfjjdccohkaa

/- outlinekeep: twice. -/
namespace Go.Proofs.Ytgapfjjdccohkaa
open Go.RowKit

set_option maxHeartbeats 1000000 in
theorem keepTwice_any (g n cap : Nat) (tw : Int) (l : List (Int × Int)) (hn : n = l.length) (h0 : 0 < n) (hs : Qm.Small l) (hn2 : n ≤ 4356) (w : World) (hP : PtsAt g l w) :
    Calls Try.prog 16 #[.agg #[.slice (some ⟨g, 0, none⟩) n cap, .int .i64 tw]] w fun e w' => e = .returned (.int .i64 (Qm.twiceOf l)) ∧ Below w.heap.size w w' := by
  have HP := hid hP
  have hg := hP.1
  have HN := hid hn
  clear hP hn
  go_enter Try.func16, Try.ntmps16
  go_wp2_with fail
  go_loopw [3, 4] (fun sm i wr => ∃ k : Nat, k ≤ n ∧ i = .int .i64 k ∧ sm = .int .i64 (Qm.fsum l k) ∧ wr.cell? ⟨w.heap.size, 0, none⟩ = some (.slice (some ⟨g, 0, none⟩) n cap) ∧ wr.cell? ⟨w.heap.size, 1, none⟩ = some (.int .i64 tw) ∧ Below w.heap.size w wr ∧ w.heap.size < wr.heap.size) (fun _ i _ => n - (intOf i).toNat)
  case atStart => exact ⟨0, by omega, rfl, rfl, by simp, by simp, by go_grown, by simp⟩
  case round =>
    obtain ⟨k, hk, rfl, rfl, b0, b1, hb, hz⟩ := hrel
    have HB := hid hb
    have ts := Qm.fsum_small hs k
    by_cases hlt : k < n
    · have hlt' : (k : Int) < (n : Int) := by omega
      have sp := hs.at k
      have sq := hs.at ((k + 1) % l.length)
      have m1 := Qm.mul_small sp.2.2.1 sp.2.2.2 sq.1 sq.2.1
      have m2 := Qm.mul_small sp.1 sp.2.1 sq.2.2.1 sq.2.2.2
      have ST := hid (fun W' (hW : Below wr.heap.size wr W') => step_any g n cap k tw l HN.out hlt hn2 W' ((HP.out.on HB.out hg).on hW (by have := HB.out.size; omega)))
      have E2 : Hid (Qm.fsum l (k + 1) = Qm.fsum l k + ((l.getD k (0, 0)).2 * (l.getD ((k + 1) % l.length) (0, 0)).1 - (l.getD k (0, 0)).1 * (l.getD ((k + 1) % l.length) (0, 0)).2)) := rfl
      obtain ⟨⟨pa, pb⟩, hpp⟩ : ∃ p, l.getD k (0, 0) = p := ⟨_, rfl⟩
      obtain ⟨⟨qa, qb⟩, hqq⟩ : ∃ p, l.getD ((k + 1) % l.length) (0, 0) = p := ⟨_, rfl⟩
      rw [hpp] at m1 m2 sp E2 ST
      rw [hqq] at m1 m2 sq E2 ST
      dsimp only at m1 m2 sp sq E2 ST
      clear hpp hqq hb
      go_wp2_with fail
      refine (ST.out _ (by go_grown)).mono ?_
      rintro e w2 ⟨rfl, hb2⟩
      have B2 := hid (show Below w.heap.size w w2 from HB.out.trans (hb2.mono (by have := HB.out.size; omega)))
      obtain ⟨hc, hf⟩ := bcell hb2
      have z2 := hb2.size
      have e0 := (hc w.heap.size 0 hz).trans b0
      have e1 := (hc w.heap.size 1 hz).trans b1
      clear hb2 hc hf b0 b1
      obtain ⟨u, hu⟩ : ∃ u, pb * qa = u := ⟨_, rfl⟩
      obtain ⟨v, hv⟩ : ∃ v, pa * qb = v := ⟨_, rfl⟩
      rw [hu] at m1 E2
      rw [hv] at m2 E2
      go_wp2
      go_roundw
      case rel =>
        have hz2 : w.heap.size < w2.heap.size := by omega
        refine ⟨k + 1, by omega, by go_num, by rw [E2.out]; go_num, ?_, ?_, ?_, ?_⟩
        · first | exact e0 | simp [go_sem, e0, hz2]
        · first | exact e1 | simp [go_sem, e1, hz2]
        · first | exact B2.out | exact (B2.out.alloc (by omega) _).alloc (by simp; omega) _
        · first | exact hz2 | (simp; omega)
      case measure => simp [intOf]; omega
    · have hlt' : ¬ (k : Int) < (n : Int) := by omega
      have hkn : k = n := by omega
      subst hkn
      go_wp2
      go_ret
      exact ⟨ret_int (by rw [Qm.twiceOf_fsum, ← HN.out]), HB.out⟩
end Go.Proofs.Ytgapfjjdccohkaa

/- outlinekeep: options. -/
namespace Go.Proofs.Ytgapfjjdccohkaa
open Go.RowKit

set_option maxHeartbeats 400000 in
theorem options_any (p : Int) (draws : ByteArray) (p1 : -9223372036854775808 ≤ p) (p2 : p ≤ 9223372036854775807) (w : World) :
    Calls Try.prog 15 #[.int .i64 p, .string draws] w fun e w' => (∃ r : Nat, e = .returned (.agg #[.int .i64 r, .string draws, .int .i64 0]) ∧ r ≤ 3) ∧ Below w.heap.size w w' := by
  go_enter Try.func15, Try.ntmps15
  go_wp2_with fail
  refine (pick_any p 4 p1 p2 (by omega) (by omega) _).mono ?_
  rintro e w1 ⟨⟨r, rfl, hr⟩, rfl⟩
  go_wp2
  refine bodyPost_ret (v := .agg #[.int .i64 r, .string draws, .int .i64 0]) (by simp [results, Try.results15, go_sem]) rfl ?_
  exact ⟨⟨r, rfl, by omega⟩, by go_grown⟩
end Go.Proofs.Ytgapfjjdccohkaa

/- The sides of a picture, pixel by pixel. Nothing of the program stands here. -/
namespace Go.Proofs.Ytgapfjjdccohkaa.Qm

/-- The sides round a black pixel. -/
def arL (bl : Int → Int → Bool) (x y : Int) : List Sd :=
  (if bl (x - 1) y then [] else [(x, y, 0)]) ++ (if bl x (y + 1) then [] else [(x, y + 1, 1)]) ++ (if bl (x + 1) y then [] else [(x + 1, y + 1, 2)]) ++ (if bl x (y - 1) then [] else [(x + 1, y, 3)])
/-- What is on the left of a side. -/
def lp (s : Sd) : Int × Int := (lpx s.1 s.2.2, lpy s.2.1 s.2.2)

theorem mem_arL {bl : Int → Int → Bool} {x y : Int} (hb : bl x y = true) (s : Sd) : s ∈ arL bl x y ↔ isS bl s = true ∧ lp s = (x, y) := by
  obtain ⟨a, b, d⟩ := s
  constructor
  · intro h
    simp only [arL, List.mem_append] at h
    rcases h with ((h | h) | h) | h
    · split at h
      · simp at h
      · rename_i hn
        simp only [List.mem_singleton, Prod.mk.injEq] at h
        obtain ⟨rfl, rfl, rfl⟩ := h
        exact ⟨by simp [isS, outQ, hb, hn], by simp [lp, lpx, lpy]⟩
    · split at h
      · simp at h
      · rename_i hn
        simp only [List.mem_singleton, Prod.mk.injEq] at h
        obtain ⟨rfl, rfl, rfl⟩ := h
        exact ⟨by simp [isS, outQ, hb, hn], by simp [lp, lpx, lpy]⟩
    · split at h
      · simp at h
      · rename_i hn
        simp only [List.mem_singleton, Prod.mk.injEq] at h
        obtain ⟨rfl, rfl, rfl⟩ := h
        exact ⟨by simp [isS, outQ, hb, hn], by simp [lp, lpx, lpy]⟩
    · split at h
      · simp at h
      · rename_i hn
        simp only [List.mem_singleton, Prod.mk.injEq] at h
        obtain ⟨rfl, rfl, rfl⟩ := h
        exact ⟨by simp [isS, outQ, hb, hn], by simp [lp, lpx, lpy]⟩
  · rintro ⟨hs, hl⟩
    have hd := isS_lt hs
    simp only [arL, List.mem_append]
    match d, hd with
    | 0, _ =>
      simp [lp, lpx, lpy] at hl
      obtain ⟨rfl, rfl⟩ := hl
      simp [isS, outQ] at hs
      refine .inl (.inl (.inl ?_))
      simp [hs.2]
    | 1, _ =>
      simp [lp, lpx, lpy] at hl
      obtain ⟨rfl, rfl⟩ := hl
      simp [isS, outQ] at hs
      refine .inl (.inl (.inr ?_))
      simp [hs.2]
    | 2, _ =>
      simp [lp, lpx, lpy] at hl
      obtain ⟨rfl, rfl⟩ := hl
      simp [isS, outQ] at hs
      refine .inl (.inr ?_)
      simp [hs.2]
    | 3, _ =>
      simp [lp, lpx, lpy] at hl
      obtain ⟨rfl, rfl⟩ := hl
      simp [isS, outQ] at hs
      refine .inr ?_
      simp [hs.2]

theorem nodup_arL (bl : Int → Int → Bool) (x y : Int) : (arL bl x y).Nodup := by
  unfold arL
  split <;> split <;> split <;> split <;> simp
theorem len_arL (bl : Int → Int → Bool) (x y : Int) : (arL bl x y).length ≤ 4 := by
  unfold arL
  split <;> split <;> split <;> split <;> simp

/-- The sides of pixel number i. -/
def pixL (bl : Int → Int → Bool) (W i : Nat) : List Sd := if bl (i % W : Nat) (i / W : Nat) then arL bl (i % W : Nat) (i / W : Nat) else []
/-- The sides of the first m pixels, row by row. -/
def sidesTo (bl : Int → Int → Bool) (W : Nat) : Nat → List Sd
  | 0 => []
  | m + 1 => sidesTo bl W m ++ pixL bl W m
theorem mem_pixL {bl : Int → Int → Bool} {W i : Nat} {s : Sd} : s ∈ pixL bl W i ↔ isS bl s = true ∧ lp s = (((i % W : Nat) : Int), ((i / W : Nat) : Int)) := by
  unfold pixL
  split
  · rename_i h; exact mem_arL h s
  · rename_i h
    simp only [List.not_mem_nil, false_iff, not_and]
    intro hs hl
    have hd := isS_lt hs
    obtain ⟨x, y, d⟩ := s
    rw [isS_lr _ _ _ _ hd] at hs
    have h1 : lpx x d = ((i % W : Nat) : Int) := congrArg Prod.fst hl
    have h2 : lpy y d = ((i / W : Nat) : Int) := congrArg Prod.snd hl
    rw [h1, h2] at hs
    simp at hs
    exact h hs.1
theorem len_sidesTo (bl : Int → Int → Bool) (W m : Nat) : (sidesTo bl W m).length ≤ 4 * m := by
  induction m with
  | zero => simp [sidesTo]
  | succ m ih =>
    have : (pixL bl W m).length ≤ 4 := by unfold pixL; split; exact len_arL _ _ _; simp
    simp only [sidesTo, List.length_append]; omega
theorem mem_sidesTo {bl : Int → Int → Bool} {W m : Nat} {s : Sd} : s ∈ sidesTo bl W m ↔ isS bl s = true ∧ ∃ i, i < m ∧ lp s = (((i % W : Nat) : Int), ((i / W : Nat) : Int)) := by
  induction m with
  | zero => simp [sidesTo]
  | succ m ih =>
    simp only [sidesTo, List.mem_append, ih, mem_pixL]
    constructor
    · rintro (⟨h, i, hi, e⟩ | ⟨h, e⟩)
      · exact ⟨h, i, by omega, e⟩
      · exact ⟨h, m, by omega, e⟩
    · rintro ⟨h, i, hi, e⟩
      rcases Nat.lt_or_ge i m with h1 | h1
      · exact .inl ⟨h, i, h1, e⟩
      · obtain rfl : i = m := by omega
        exact .inr ⟨h, e⟩
theorem nodup_sidesTo (bl : Int → Int → Bool) (W m : Nat) : (sidesTo bl W m).Nodup := by
  induction m with
  | zero => simp [sidesTo]
  | succ m ih =>
    refine List.nodup_append.2 ⟨ih, by unfold pixL; split; exact nodup_arL _ _ _; simp, fun a ha b hb e => ?_⟩
    subst e
    obtain ⟨_, i, hi, e1⟩ := mem_sidesTo.1 ha
    obtain ⟨_, e2⟩ := mem_pixL.1 hb
    rw [e1] at e2
    have a1 := congrArg Prod.fst e2
    have a2 := congrArg Prod.snd e2
    simp only at a1 a2
    have b1 : i % W = m % W := by omega
    have b2 : i / W = m / W := by omega
    have := Nat.div_add_mod i W
    have := Nat.div_add_mod m W
    rw [b1, b2] at *
    omega
/-- All sides of the picture. -/
theorem all_sidesTo {bl : Int → Int → Bool} {W H : Nat} (hp : Pic bl W H) (s : Sd) : s ∈ sidesTo bl W (W * H) ↔ isS bl s = true := by
  rw [mem_sidesTo]
  refine ⟨fun h => h.1, fun hs => ⟨hs, ?_⟩⟩
  have hd := isS_lt hs
  obtain ⟨x, y, d⟩ := s
  rw [isS_lr _ _ _ _ hd] at hs
  simp at hs
  have hb := hp.box _ _ hs.1
  obtain ⟨a, ha⟩ := Int.eq_ofNat_of_zero_le hb.1
  obtain ⟨b, hbb⟩ := Int.eq_ofNat_of_zero_le hb.2.2.1
  rw [ha, hbb] at hb
  have ha2 : a < W := by omega
  have hb2 : b < H := by omega
  refine ⟨b * W + a, ?_, ?_⟩
  · have : (b + 1) * W ≤ H * W := Nat.mul_le_mul_right _ hb2
    rw [Nat.add_mul] at this
    rw [Nat.mul_comm W H]; omega
  · have e1 : (b * W + a) % W = a := by rw [Nat.add_comm, Nat.add_mul_mod_self_right, Nat.mod_eq_of_lt ha2]
    have e2 : (b * W + a) / W = b := by rw [Nat.add_comm, Nat.add_mul_div_right _ _ (by omega), Nat.div_eq_of_lt ha2]; omega
    rw [e1, e2]
    exact Prod.ext ha hbb
end Go.Proofs.Ytgapfjjdccohkaa.Qm

/- outlinekeep: works. -/
namespace Go.Proofs.Ytgapfjjdccohkaa
open Go.RowKit

theorem sides_one : Qm.sidesTo (Pm.blackB 1 1 [49]) 1 (1 * 1) = [(0, 0, 0), (0, 1, 1), (1, 1, 2), (1, 0, 3)] := by decide
/-- Of one black pixel there is one cycle. -/
theorem res_one : Qm.Res (fB 1 1 ⟨#[49]⟩ 0 ⟨#[]⟩) (bB 1 1 ⟨#[49]⟩) Qm.key [((0, 0, 0), 4)] := by
  refine ⟨?_, by simp, ?_⟩
  · intro c hc
    simp only [List.mem_singleton] at hc
    subst hc
    refine ⟨⟨by decide, by decide, by decide, ?_⟩, ?_⟩
    · have : ∀ (i j : Fin 4), i.val < j.val → Qm.it (fB 1 1 ⟨#[49]⟩ 0 ⟨#[]⟩) i.val (0, 0, 0) ≠ Qm.it (fB 1 1 ⟨#[49]⟩ 0 ⟨#[]⟩) j.val (0, 0, 0) := by decide
      intro i j hij hj
      exact this ⟨i, by omega⟩ ⟨j, hj⟩ hij
    · have : ∀ (i : Fin 4), 0 < i.val → Qm.key (0, 0, 0) < Qm.key (Qm.it (fB 1 1 ⟨#[49]⟩ 0 ⟨#[]⟩) i.val (0, 0, 0)) := by decide
      intro i h0 hi
      exact this ⟨i, hi⟩ h0
  · intro t ht
    have h1 := (Qm.all_sidesTo (Qm.pic_of 1 1 [49] (by omega) (by omega)) t).2 ht
    rw [sides_one] at h1
    simp only [List.mem_cons, List.mem_nil_iff, or_false] at h1
    rcases h1 with rfl | rfl | rfl | rfl
    · exact ⟨_, List.mem_singleton.2 rfl, 0, by decide, by decide⟩
    · exact ⟨_, List.mem_singleton.2 rfl, 1, by decide, by decide⟩
    · exact ⟨_, List.mem_singleton.2 rfl, 2, by decide, by decide⟩
    · exact ⟨_, List.mem_singleton.2 rfl, 3, by decide, by decide⟩

/-- What one sees of the answer for one black pixel. -/
theorem one_shown {vl : Value} {w w' : World} (h : FindOut 1 1 ⟨#[49]⟩ 0 ⟨#[]⟩ w vl w') : Below w.heap.size w w' ∧ ∃ gl cap g c, vl = .slice (some ⟨gl, 0, none⟩) 1 cap ∧ gl < w'.heap.size ∧ g < w'.heap.size ∧ w'.cell? ⟨gl, 0, none⟩ = some (.slice (some ⟨g, 0, none⟩) 4 c) ∧ w'.cell? ⟨gl, 1, none⟩ = some (.int .i64 2)
    ∧ w'.cell? ⟨g, 0, none⟩ = some (.int .i64 0) ∧ w'.cell? ⟨g, 1, none⟩ = some (.int .i64 0) ∧ w'.cell? ⟨g, 2, none⟩ = some (.int .i64 0) ∧ w'.cell? ⟨g, 3, none⟩ = some (.int .i64 1) ∧ w'.cell? ⟨g, 4, none⟩ = some (.int .i64 1) ∧ w'.cell? ⟨g, 5, none⟩ = some (.int .i64 1) ∧ w'.cell? ⟨g, 6, none⟩ = some (.int .i64 1) ∧ w'.cell? ⟨g, 7, none⟩ = some (.int .i64 0) := by
  obtain ⟨L, h1, h2, h3, _⟩ := h
  refine ⟨h3, ?_⟩
  have e := h1.unique res_one
  obtain ⟨v, rfl⟩ : ∃ v, L = [(v, ((0, 0, 0), 4))] := by
    match L, e with
    | [], e => simp at e
    | [(v, c)], e => simp at e; subst e; exact ⟨v, rfl⟩
    | _ :: _ :: _, e => simp at e
  have sh := h2.shown (fun p hp => by simp at hp; subst hp; simp)
  obtain ⟨ao, cap, rfl, hr⟩ := sh.row
  obtain ⟨gl, rfl, hgl, hc⟩ := hr.resolve_left (by simp)
  obtain ⟨g, c, hv, _, hg, hp⟩ := sh.pts _ (List.mem_singleton.2 rfl)
  simp only at hv hp
  subst hv
  have s0 := shpV_at (fB 1 1 ⟨#[49]⟩ 0 ⟨#[]⟩) [((Value.slice (some ⟨g, 0, none⟩) 4 c), ((0, 0, 0), 4))] 0 (by simp)
  have c0 := hc _ _ s0.1
  have c1 := hc _ _ s0.2
  have ep : Qm.ptsOf (fB 1 1 ⟨#[49]⟩ 0 ⟨#[]⟩) ((0, 0, 0), 4) = [(0, 0), (0, 1), (1, 1), (1, 0)] := by decide
  have et : Qm.twiceOf (Qm.ptsOf (fB 1 1 ⟨#[49]⟩ 0 ⟨#[]⟩) ((0, 0, 0), 4)) = 2 := by decide
  simp only [List.getElem_cons_zero, et] at c0 c1
  rw [ep] at hp
  have p0 := hp 0 (by simp)
  have p1 := hp 1 (by simp)
  have p2 := hp 2 (by simp)
  have p3 := hp 3 (by simp)
  exact ⟨gl, cap, g, c, rfl, hgl, hg, c0, c1, p0.1, p0.2, p1.1, p1.2, p2.1, p2.2, p3.1, p3.2⟩

set_option maxRecDepth 4000 in
set_option maxHeartbeats 1000000 in
theorem works_any (w : World) :
    Calls Try.prog 12 #[] w fun e w' => e = .returned (.bool true) ∧ Below w.heap.size w w' := by
  go_enter Try.func12, Try.ntmps12
  go_wp2_with fail
  refine (cycles_yes 1 1 ⟨#[49]⟩ 0 ⟨#[]⟩ 0 _ (by decide) (by omega) (by omega) rfl (by omega)).mono ?_
  rintro e w1 ⟨vl, rfl, ho⟩
  obtain ⟨hb, gl, cap, g, c, rfl, hgl, hg, c0, c1, p0, p1, p2, p3, p4, p5, p6, p7⟩ := one_shown ho
  have B1 := hid (show Below w.heap.size w w1 from Below.trans (b := _) (by go_grown) (hb.mono (by simp)))
  clear hb ho
  go_wp2
  go_ret
  exact ⟨rfl, B1.out⟩
end Go.Proofs.Ytgapfjjdccohkaa

/- Winding numbers of a list of sides. Nothing of the program stands here. -/
namespace Go.Proofs.Ytgapfjjdccohkaa.Qm

/-- What is summed over a list of sides. -/
def sm (S : List Sd) (g : Sd → Int) : Int := (S.map g).sum
theorem sm_nil (g : Sd → Int) : sm [] g = 0 := rfl
theorem sm_cons (s : Sd) (S : List Sd) (g : Sd → Int) : sm (s :: S) g = g s + sm S g := by simp [sm]
theorem sm_app (S T : List Sd) (g : Sd → Int) : sm (S ++ T) g = sm S g + sm T g := by simp [sm, List.sum_append]
theorem sm_congr {S : List Sd} {g h : Sd → Int} (e : ∀ s ∈ S, g s = h s) : sm S g = sm S h := by
  unfold sm; rw [List.map_congr_left e]
theorem sm_add (S : List Sd) (g h : Sd → Int) : sm S (fun s => g s + h s) = sm S g + sm S h := by
  induction S with
  | nil => rfl
  | cons s S ih => simp only [sm_cons, ih]; omega
theorem sm_sub (S : List Sd) (g h : Sd → Int) : sm S (fun s => g s - h s) = sm S g - sm S h := by
  induction S with
  | nil => rfl
  | cons s S ih => simp only [sm_cons, ih]; omega
theorem sm_zero {S : List Sd} {g : Sd → Int} (e : ∀ s ∈ S, g s = 0) : sm S g = 0 := by
  induction S with
  | nil => rfl
  | cons s S ih => rw [sm_cons, e s (by simp), ih (fun t ht => e t (by simp [ht]))]; rfl

/-- How often a side stands in a list. -/
def ct (S : List Sd) (t : Sd) : Int := sm S (fun s => if s = t then 1 else 0)
theorem ct_no {S : List Sd} {t : Sd} (h : t ∉ S) : ct S t = 0 := sm_zero fun s hs => by
  rw [if_neg]; rintro rfl; exact h hs
theorem ct_yes {S : List Sd} {t : Sd} (hn : S.Nodup) (h : t ∈ S) : ct S t = 1 := by
  induction S with
  | nil => simp at h
  | cons s S ih =>
    have hn' := List.nodup_cons.1 hn
    show sm (s :: S) _ = 1
    rw [sm_cons]
    by_cases e : s = t
    · subst e
      have := ct_no hn'.1
      unfold ct at this
      rw [if_pos rfl, this]; rfl
    · rw [if_neg e]
      have := ih hn'.2 (by rcases List.mem_cons.1 h with h | h; exact absurd h.symm e; exact h)
      unfold ct at this
      rw [this]; rfl

/-- What one side adds to the winding number at the middle of pixel (x, y). -/
def hw (x y : Int) (s : Sd) : Int :=
  if s.2.2 = 2 ∧ s.2.1 = y + 1 ∧ x < s.1 then 1 else if s.2.2 = 0 ∧ s.2.1 = y ∧ x < s.1 then -1 else 0
def wn (S : List Sd) (x y : Int) : Int := sm S (hw x y)

theorem wn_x (S : List Sd) (x y : Int) : wn S (x - 1) y - wn S x y = ct S (x, y + 1, 2) - ct S (x, y, 0) := by
  unfold wn ct
  rw [← sm_sub, ← sm_sub]
  refine sm_congr fun s _ => ?_
  obtain ⟨a, b, d⟩ := s
  simp only [hw, Prod.mk.injEq]
  by_cases h2 : d = 2
  · subst h2; simp; split <;> split <;> (try split) <;> omega
  · by_cases h0 : d = 0
    · subst h0; simp; split <;> split <;> (try split) <;> omega
    · simp [h2, h0]

/-- It comes back to where it began. -/
def Closed (S : List Sd) : Prop := ∀ φ : Int × Int → Int, sm S (fun s => φ (en s) - φ (fromP s)) = 0
theorem Closed.nil : Closed [] := fun _ => rfl
theorem Closed.app {S T : List Sd} (h : Closed S) (k : Closed T) : Closed (S ++ T) := fun φ => by rw [sm_app, h φ, k φ]; rfl

theorem wn_y {S : List Sd} (hS : Closed S) (hd : ∀ s ∈ S, s.2.2 < 4) (x y : Int) : wn S x (y - 1) - wn S x y = ct S (x, y, 1) - ct S (x + 1, y, 3) := by
  have h := hS (fun p => if p.2 = y ∧ x < p.1 then 1 else 0)
  have e : sm S (fun s => (hw x (y - 1) s - hw x y s) - ((if s = (x, y, 1) then (1 : Int) else 0) - (if s = (x + 1, y, 3) then 1 else 0))) = sm S (fun s => 0 - ((fun p : Int × Int => if p.2 = y ∧ x < p.1 then (1 : Int) else 0) (en s) - (fun p : Int × Int => if p.2 = y ∧ x < p.1 then (1 : Int) else 0) (fromP s))) := by
    refine sm_congr fun s hs => ?_
    have h4 := hd s hs
    obtain ⟨a, b, d⟩ := s
    match d, h4 with
    | 0, _ => simp [hw, en, fromP]; repeat' split <;> try omega
    | 1, _ => simp [hw, en, fromP]; repeat' split <;> try omega
    | 2, _ => simp [hw, en, fromP]; repeat' split <;> try omega
    | 3, _ => simp [hw, en, fromP]; repeat' split <;> try omega
  rw [sm_sub, sm_sub, sm_sub, sm_sub (g := fun _ => (0 : Int)), h, sm_zero (fun _ _ => rfl)] at e
  unfold wn ct
  omega

theorem wn_left {S : List Sd} (hS : Closed S) (hd : ∀ s ∈ S, s.2.2 < 4) (x y : Int) (hx : ∀ s ∈ S, x < s.1) : wn S x y = 0 := by
  have h := hS (fun p => if p.2 ≤ y then 1 else 0)
  rw [← h]
  refine sm_congr fun s hs => ?_
  have h4 := hd s hs
  have hx := hx s hs
  obtain ⟨a, b, d⟩ := s
  simp only at hx
  match d, h4 with
  | 0, _ => simp [hw, en, fromP, hx]; repeat' split <;> try omega
  | 1, _ => simp [hw, en, fromP]; omega
  | 2, _ => simp [hw, en, fromP, hx]; repeat' split <;> try omega
  | 3, _ => simp [hw, en, fromP]; omega
theorem wn_right {S : List Sd} (x y : Int) (hx : ∀ s ∈ S, s.1 ≤ x) : wn S x y = 0 := sm_zero fun s hs => by
  have := hx s hs
  unfold hw
  rw [if_neg (by omega), if_neg (by omega)]
end Go.Proofs.Ytgapfjjdccohkaa.Qm

/- The winding numbers of one cycle: on its left one number, on its right one less; they never change their sign. Nothing of the program stands here. -/
namespace Go.Proofs.Ytgapfjjdccohkaa.Qm

/-- The sides of a cycle. -/
def cyS (f : Sd → Sd) (c : Sd × Nat) : List Sd := (List.range c.2).map fun i => it f i c.1
theorem mem_cyS {f : Sd → Sd} {c : Sd × Nat} {t : Sd} : t ∈ cyS f c ↔ ∃ i, i < c.2 ∧ t = it f i c.1 := by
  simp only [cyS, List.mem_map, List.mem_range]
  exact ⟨fun ⟨i, h, e⟩ => ⟨i, h, e.symm⟩, fun ⟨i, h, e⟩ => ⟨i, h, e.symm⟩⟩

theorem sm_range (f : Sd → Sd) (s : Sd) (g : Sd → Int) (n : Nat) : sm ((List.range (n + 1)).map fun i => it f i s) g = sm ((List.range n).map fun i => it f i s) g + g (it f n s) := by
  rw [List.range_succ, List.map_append, sm_app]; simp [sm]
theorem sm_tele {bl jn : Int → Int → Bool} (s : Sd) (φ : Int × Int → Int) (n : Nat) : sm ((List.range n).map fun i => it (nx bl jn) i s) (fun s => φ (en s) - φ (fromP s)) = φ (fromP (it (nx bl jn) n s)) - φ (fromP s) := by
  induction n with
  | zero => simp [sm, it]
  | succ n ih =>
    rw [sm_range, ih]
    have : fromP (it (nx bl jn) (n + 1) s) = en (it (nx bl jn) n s) := rfl
    rw [this]; omega

section
variable {bl jn : Int → Int → Bool} {c : Sd × Nat}

theorem Cyc.closed (h : Cyc (nx bl jn) (fun s => isS bl s = true) c.1 c.2) : Closed (cyS (nx bl jn) c) := fun φ => by
  unfold cyS
  rw [sm_tele, h.2.2.1]; omega
theorem Cyc.nodup (h : Cyc (nx bl jn) (fun s => isS bl s = true) c.1 c.2) : (cyS (nx bl jn) c).Nodup := by
  unfold cyS
  rw [List.Nodup, List.pairwise_map]
  refine List.Pairwise.imp_of_mem ?_ List.pairwise_lt_range
  intro i j _ hj hij
  exact h.2.2.2 i j hij (List.mem_range.1 hj)
theorem it_isS {s : Sd} (h : isS bl s = true) (n : Nat) : isS bl (it (nx bl jn) n s) = true := by
  induction n with
  | zero => exact h
  | succ n ih => exact nx_isS ih
theorem Cyc.sides (h : Cyc (nx bl jn) (fun s => isS bl s = true) c.1 c.2) : ∀ s ∈ cyS (nx bl jn) c, isS bl s = true := fun s hs => by
  obtain ⟨i, _, rfl⟩ := mem_cyS.1 hs
  exact it_isS h.1 i
theorem Cyc.mem (h : Cyc (nx bl jn) (fun s => isS bl s = true) c.1 c.2) (i : Nat) : it (nx bl jn) i c.1 ∈ cyS (nx bl jn) c :=
  mem_cyS.2 ⟨i % c.2, Nat.mod_lt _ h.2.1, h.mod i⟩

/-- On the left of a side of the list, one more than on its right. -/
theorem wn_side {S : List Sd} (hS : Closed S) (hn : S.Nodup) (hs : ∀ s ∈ S, isS bl s = true) {x y : Int} {d : Nat} (h : (x, y, d) ∈ S) : wn S (lpx x d) (lpy y d) = wn S (rpx x d) (rpy y d) + 1 := by
  have h0 := hs _ h
  have h4 := isS_lt h0
  have c1 := ct_yes hn h
  have no : ∀ t : Sd, isS bl t = false → ct S t = 0 := fun t ht => ct_no fun hm => by rw [hs t hm] at ht; simp at ht
  have hd : ∀ s ∈ S, s.2.2 < 4 := fun s hm => isS_lt (hs s hm)
  simp only at h4
  match d, h4 with
  | 0, _ =>
    have a := wn_x S x y
    have b := no (x, y + 1, 2) (by simp [isS, outQ] at h0 ⊢; simp [h0])
    simp only [lpx, lpy, rpx, rpy]; simp
    omega
  | 1, _ =>
    have a := wn_y hS hd x y
    have b := no (x + 1, y, 3) (by simp [isS, outQ] at h0 ⊢; simp [h0])
    simp only [lpx, lpy, rpx, rpy]; simp
    omega
  | 2, _ =>
    have a := wn_x S x (y - 1)
    rw [show y - 1 + 1 = y from by omega] at a
    have b := no (x, y - 1, 0) (by simp [isS, outQ] at h0 ⊢; simp [h0])
    simp only [lpx, lpy, rpx, rpy]; simp
    omega
  | 3, _ =>
    have a := wn_y hS hd (x - 1) y
    rw [show x - 1 + 1 = x from by omega] at a
    have b := no (x - 1, y, 1) (by simp [isS, outQ] at h0 ⊢; simp [h0])
    simp only [lpx, lpy, rpx, rpy]; simp
    omega

/-- Where two pixels side by side are of one colour, no side parts them. -/
theorem wn_same_x {S : List Sd} (hs : ∀ s ∈ S, isS bl s = true) {x y : Int} (h : bl (x - 1) y = bl x y) : wn S (x - 1) y = wn S x y := by
  have no : ∀ t : Sd, isS bl t = false → ct S t = 0 := fun t ht => ct_no fun hm => by rw [hs t hm] at ht; simp at ht
  have a := wn_x S x y
  have b := no (x, y + 1, 2) (by simp [isS, outQ, h])
  have d := no (x, y, 0) (by simp [isS, outQ, h])
  omega
theorem wn_same_y {S : List Sd} (hS : Closed S) (hs : ∀ s ∈ S, isS bl s = true) {x y : Int} (h : bl x (y - 1) = bl x y) : wn S x (y - 1) = wn S x y := by
  have no : ∀ t : Sd, isS bl t = false → ct S t = 0 := fun t ht => ct_no fun hm => by rw [hs t hm] at ht; simp at ht
  have a := wn_y hS (fun s hm => isS_lt (hs s hm)) x y
  have b := no (x, y, 1) (by simp [isS, outQ, h])
  have d := no (x + 1, y, 3) (by simp [isS, outQ, h])
  omega
end
end Go.Proofs.Ytgapfjjdccohkaa.Qm

/- One cycle's winding numbers have one sign; its Twice is twice their sum. Nothing of the program stands here. -/
namespace Go.Proofs.Ytgapfjjdccohkaa.Qm

theorem next_turn : ∀ (j nw ne se sw : Bool) (d : Fin 4), inQ nw ne se sw d = true → nextD j nw ne se sw d = d.val ∨ nextD j nw ne se sw d = (d.val + 1) % 4 ∨ nextD j nw ne se sw d = (d.val + 3) % 4 := by decide

/-- The number on the left of a side. -/
def lw (S : List Sd) (s : Sd) : Int := wn S (lpx s.1 s.2.2) (lpy s.2.1 s.2.2)
def rw' (S : List Sd) (s : Sd) : Int := wn S (rpx s.1 s.2.2) (rpy s.2.1 s.2.2)

section
variable {bl jn : Int → Int → Bool} {c : Sd × Nat}

theorem lw_next {S : List Sd} (hS : Closed S) (hn : S.Nodup) (hs : ∀ s ∈ S, isS bl s = true) {s : Sd} (h : s ∈ S) (h' : nx bl jn s ∈ S) : lw S (nx bl jn s) = lw S s := by
  have i0 := hs _ h
  have i1 := hs _ h'
  have d4 := isS_lt i0
  have w0 := wn_side hS hn hs (x := s.1) (y := s.2.1) (d := s.2.2) h
  have w1 := wn_side hS hn hs (x := (nx bl jn s).1) (y := (nx bl jn s).2.1) (d := (nx bl jn s).2.2) h'
  have tn : (nx bl jn s).2.2 = s.2.2 ∨ (nx bl jn s).2.2 = (s.2.2 + 1) % 4 ∨ (nx bl jn s).2.2 = (s.2.2 + 3) % 4 := by
    have := i0
    rw [isS_in] at this
    exact next_turn _ _ _ _ _ ⟨s.2.2, d4⟩ this
  have e1 : (nx bl jn s).1 = (en s).1 := rfl
  have e2 : (nx bl jn s).2.1 = (en s).2 := rfl
  unfold lw
  obtain ⟨t, et⟩ : ∃ t, nx bl jn s = t := ⟨_, rfl⟩
  rw [et] at i1 w1 tn e1 e2 ⊢
  clear h' et
  obtain ⟨x', y', d'⟩ := t
  obtain ⟨x, y, d⟩ := s
  simp only at e1 e2 tn w0 w1 d4 ⊢
  subst e1 e2
  match d, d4 with
  | 0, _ =>
    rcases tn with rfl | rfl | rfl
    · simp [isS, outQ, en] at i0 i1
      have := wn_same_y hS hs (x := x) (y := y + 1) (by rw [i1.1]; simpa using i0.1)
      simp [lpx, lpy, en] at this ⊢; exact this.symm
    · simp [lpx, lpy, en]
    · simp [lpx, lpy, rpx, rpy, en] at w0 w1 ⊢; omega
  | 1, _ =>
    rcases tn with rfl | rfl | rfl
    · simp [isS, outQ, en] at i0 i1
      have := wn_same_x (S := S) hs (x := x + 1) (y := y - 1) (by rw [i1.1]; simpa using i0.1)
      simp [lpx, lpy, en] at this ⊢; exact this.symm
    · simp [lpx, lpy, en]
    · simp [lpx, lpy, rpx, rpy, en] at w0 w1 ⊢; omega
  | 2, _ =>
    rcases tn with rfl | rfl | rfl
    · simp [isS, outQ, en] at i0 i1
      have := wn_same_y hS hs (x := x - 1) (y := y - 1) (by rw [i0.1]; simpa using i1.1)
      simp [lpx, lpy, en] at this ⊢; exact this
    · simp [lpx, lpy, en]
    · simp [lpx, lpy, rpx, rpy, en] at w0 w1 ⊢; omega
  | 3, _ =>
    rcases tn with rfl | rfl | rfl
    · simp [isS, outQ, en] at i0 i1
      have := wn_same_x (S := S) hs (x := x - 1) (y := y) (by rw [i0.1]; simpa using i1.1)
      simp [lpx, lpy, en] at this ⊢; exact this
    · simp [lpx, lpy, en]
    · simp [lpx, lpy, rpx, rpy, en] at w0 w1 ⊢; omega

theorem Cyc.lw_all (h : Cyc (nx bl jn) (fun s => isS bl s = true) c.1 c.2) {s : Sd} (hs : s ∈ cyS (nx bl jn) c) : lw (cyS (nx bl jn) c) s = lw (cyS (nx bl jn) c) c.1 := by
  have key : ∀ i, lw (cyS (nx bl jn) c) (it (nx bl jn) i c.1) = lw (cyS (nx bl jn) c) c.1 := by
    intro i
    induction i with
    | zero => rfl
    | succ i ih => exact (lw_next h.closed h.nodup h.sides (h.mem i) (h.mem (i + 1))).trans ih
  obtain ⟨i, _, rfl⟩ := mem_cyS.1 hs
  exact key i

/-- All winding numbers of a cycle are 0 or one and the same sign. -/
theorem Cyc.sign (h : Cyc (nx bl jn) (fun s => isS bl s = true) c.1 c.2) {W H : Int} (hp : Pic bl W H) :
    (lw (cyS (nx bl jn) c) c.1 = 0 ∨ lw (cyS (nx bl jn) c) c.1 = 1) ∧ ∀ x y, wn (cyS (nx bl jn) c) x y = 0 ∨ wn (cyS (nx bl jn) c) x y = 2 * lw (cyS (nx bl jn) c) c.1 - 1 := by
  have hS := h.closed
  have hn := h.nodup
  have hs := h.sides
  have hl : ∀ {x y : Int} {d : Nat}, (x, y, d) ∈ cyS (nx bl jn) c → wn (cyS (nx bl jn) c) (lpx x d) (lpy y d) = lw (cyS (nx bl jn) c) c.1 ∧ wn (cyS (nx bl jn) c) (rpx x d) (rpy y d) = lw (cyS (nx bl jn) c) c.1 - 1 := fun {x y d} hm => by
    have a := h.lw_all hm
    have b := wn_side hS hn hs hm
    unfold lw at a
    simp only at a
    unfold lw
    omega
  have h0 := h.mem 0
  have hd : ∀ s ∈ cyS (nx bl jn) c, s.2.2 < 4 := fun s hm => isS_lt (hs s hm)
  have hlow : ∀ s ∈ cyS (nx bl jn) c, 0 ≤ s.1 := fun s hm => (side_in hp (hs s hm)).1
  obtain ⟨S, eS⟩ : ∃ S, cyS (nx bl jn) c = S := ⟨_, rfl⟩
  rw [eS] at hS hn hs h0 hd hlow hl ⊢
  obtain ⟨k, ek⟩ : ∃ k, lw S c.1 = k := ⟨_, rfl⟩
  rw [ek] at hl ⊢
  have vals : ∀ (y : Int) (n : Nat), wn S ((n : Int) - 1) y = 0 ∨ ((k = 0 ∨ k = 1) ∧ (wn S ((n : Int) - 1) y = k ∨ wn S ((n : Int) - 1) y = k - 1)) := by
    intro y n
    induction n with
    | zero => exact .inl (wn_left hS hd _ y fun s hm => by have := hlow s hm; simp; omega)
    | succ n ih =>
      have e : ((n + 1 : Nat) : Int) - 1 = n := by omega
      rw [e]
      by_cases u : ((n : Int), y + 1, 2) ∈ S
      · have := hl u
        simp [lpx, lpy, rpx, rpy] at this
        omega
      · by_cases v : ((n : Int), y, 0) ∈ S
        · have := hl v
          simp [lpx, lpy, rpx, rpy] at this
          omega
        · have := wn_x S n y
          rw [ct_no u, ct_no v] at this
          omega
  have all : ∀ x y : Int, wn S x y = 0 ∨ ((k = 0 ∨ k = 1) ∧ (wn S x y = k ∨ wn S x y = k - 1)) := by
    intro x y
    by_cases hx : x < 0
    · exact .inl (wn_left hS hd x y fun s hm => by have := hlow s hm; omega)
    · have := vals y (x + 1).toNat
      rwa [show (((x + 1).toNat : Nat) : Int) - 1 = x from by omega] at this
  have hk : k = 0 ∨ k = 1 := by
    have a := hl (x := c.1.1) (y := c.1.2.1) (d := c.1.2.2) h0
    have b1 := all (lpx c.1.1 c.1.2.2) (lpy c.1.2.1 c.1.2.2)
    have b2 := all (rpx c.1.1 c.1.2.2) (rpy c.1.2.1 c.1.2.2)
    omega
  refine ⟨hk, fun x y => ?_⟩
  have := all x y
  omega
end

/-- A sum over the first n numbers. -/
def sN (n : Nat) (g : Nat → Int) : Int := match n with
  | 0 => 0
  | n + 1 => sN n g + g n
theorem sN_congr {n : Nat} {g h : Nat → Int} (e : ∀ i, i < n → g i = h i) : sN n g = sN n h := by
  induction n with
  | zero => rfl
  | succ n ih => simp only [sN]; rw [ih fun i hi => e i (by omega), e n (by omega)]
theorem sN_add (n : Nat) (g h : Nat → Int) : sN n (fun i => g i + h i) = sN n g + sN n h := by
  induction n with
  | zero => rfl
  | succ n ih => simp only [sN, ih]; omega
theorem sN_zero (n : Nat) : sN n (fun _ => 0) = 0 := by
  induction n with
  | zero => rfl
  | succ n ih => simp only [sN, ih]; rfl
/-- A sum over a box of pixels. -/
def bx (W H : Nat) (g : Int → Int → Int) : Int := sN H fun y => sN W fun x => g x y
theorem bx_add (W H : Nat) (g h : Int → Int → Int) : bx W H (fun x y => g x y + h x y) = bx W H g + bx W H h := by
  unfold bx; rw [← sN_add]; exact sN_congr fun y _ => sN_add W _ _
theorem bx_zero (W H : Nat) : bx W H (fun _ _ => 0) = 0 := by
  unfold bx; exact (sN_congr fun y _ => sN_zero W).trans (sN_zero H)
theorem bx_congr {W H : Nat} {g h : Int → Int → Int} (e : ∀ x y : Int, g x y = h x y) : bx W H g = bx W H h := by
  unfold bx; exact sN_congr fun y _ => sN_congr fun x _ => e _ _
theorem bx_sm (W H : Nat) (S : List Sd) (g : Int → Int → Sd → Int) : bx W H (fun x y => sm S (g x y)) = sm S (fun s => bx W H (fun x y => g x y s)) := by
  induction S with
  | nil => exact bx_zero W H
  | cons s S ih => rw [sm_cons, ← ih, ← bx_add]; exact bx_congr fun x y => sm_cons _ _ _
theorem sN_lt (n : Nat) (a v : Int) : sN n (fun x => if (x : Int) < a then v else 0) = v * (if a < 0 then 0 else if a ≤ n then a else n) := by
  induction n with
  | zero =>
    simp only [sN]
    by_cases h1 : a < 0
    · rw [if_pos h1]; simp
    · by_cases h2 : a ≤ ((0 : Nat) : Int)
      · rw [if_neg h1, if_pos h2, show a = 0 from by omega]; simp
      · rw [if_neg h1, if_neg h2]; simp
  | succ n ih =>
    simp only [sN, ih]
    by_cases h1 : a < 0
    · rw [if_pos h1, if_neg (by omega), if_pos h1]; omega
    · by_cases h2 : a ≤ n
      · rw [if_neg h1, if_pos h2, if_neg (by omega), if_neg h1, if_pos (by omega)]; omega
      · rw [if_neg h1, if_neg h2, if_pos (by omega), if_neg h1]
        by_cases h3 : a ≤ ((n + 1 : Nat) : Int)
        · rw [if_pos h3, show a = (n : Int) + 1 from by omega, Int.mul_add]; omega
        · rw [if_neg h3, show ((n + 1 : Nat) : Int) = (n : Int) + 1 from by omega, Int.mul_add]; omega
theorem sN_eq (n : Nat) (a : Int) (v : Int) : sN n (fun y => if a = (y : Int) then v else 0) = if 0 ≤ a ∧ a < n then v else 0 := by
  induction n with
  | zero => simp only [sN]; rw [if_neg (by omega)]
  | succ n ih =>
    simp only [sN, ih]
    repeat' split <;> try omega
end Go.Proofs.Ytgapfjjdccohkaa.Qm
