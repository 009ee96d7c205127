import Derived.Test.YtgapfjjdccohkaaJcounted08
import Derived.Test.YtgapfjjdccohkaaJcounted03
import Derived.Test.YtgapfjjdccohkaaJcounted04
import Derived.Test.YtgapfjjdccohkaaJcounted02
import Derived.Test.YtgapfjjdccohkaaJcounted05
import Derived.Test.YtgapfjjdccohkaaJcounted06

/- outlinekeep: step, twice. -/
namespace Go.Proofs.Ytgapfjjdccohkaa
open Go.RowKit

set_option maxHeartbeats 1000000 in
theorem step_any (g n cap i : Nat) (tw : Int) (l : List (Int × Int)) (hn : n = l.length) (hi : i < n) (hn2 : n ≤ 4356) (w : World) (hP : PtsAt g l w) :
    Calls Try.prog 18 #[.agg #[.slice (some ⟨g, 0, none⟩) n cap, .int .i64 tw], .int .i64 i] w fun e w' => e = .returned (.tuple #[.agg #[.int .i64 (l.getD i (0, 0)).1, .int .i64 (l.getD i (0, 0)).2], .agg #[.int .i64 (l.getD ((i + 1) % l.length) (0, 0)).1, .int .i64 (l.getD ((i + 1) % l.length) (0, 0)).2]]) ∧ Below w.heap.size w w' := by
  have hg := hP.1
  have g1 : g < w.heap.size + 1 := by omega
  have g2 : g < w.heap.size + 1 + 1 := by omega
  have g3 : ¬ g = w.heap.size := by omega
  have g4 : ¬ g = w.heap.size + 1 := by omega
  have g5 : ¬ g = w.heap.size + 1 + 1 := by omega
  obtain ⟨a0, a1⟩ := hP.2 i (by omega)
  obtain ⟨z0, z1⟩ := hP.2 0 (by omega)
  obtain ⟨⟨pa, pb⟩, hpp⟩ : ∃ p, l.getD i (0, 0) = p := ⟨_, rfl⟩
  obtain ⟨⟨za, zb⟩, hzz⟩ : ∃ p, l.getD 0 (0, 0) = p := ⟨_, rfl⟩
  rw [hpp] at a0 a1 ⊢
  rw [hzz] at z0 z1
  by_cases h1 : i + 1 < n
  · obtain ⟨c0, c1⟩ := hP.2 (i + 1) (by omega)
    rw [Nat.mod_eq_of_lt (by omega)]
    obtain ⟨⟨qa, qb⟩, hqq⟩ : ∃ p, l.getD (i + 1) (0, 0) = p := ⟨_, rfl⟩
    rw [hqq] at c0 c1 ⊢
    have h1' : (i : Int) + 1 < n := by omega
    have h2' : (0 : Int) ≤ (i : Int) + 1 := by omega
    have h3' : IntKind.i64.wrap ((i : Int) + 1) = (i : Int) + 1 := by rw [IntKind.wrap_i64]; omega
    have h4' : ((i : Int) + 1).toNat = i + 1 := by omega
    clear hP hpp hzz hqq hn z0 z1
    dsimp only at a0 a1 c0 c1 ⊢
    go_enter Try.func18, Try.ntmps18
    go_wp2
    go_region_held3 (fun w' => w'.cell? ⟨w.heap.size + 1 + 1 + 1, 0, none⟩ = some (.int .i64 pa) ∧ w'.cell? ⟨w.heap.size + 1 + 1 + 1, 1, none⟩ = some (.int .i64 pb) ∧ w'.cell? ⟨w.heap.size, 0, none⟩ = some (.slice (some ⟨g, 0, none⟩) n cap) ∧ w'.cell? ⟨g, (i + 1) * 2, none⟩ = some (.int .i64 qa) ∧ w'.cell? ⟨g, (i + 1) * 2 + 1, none⟩ = some (.int .i64 qb))
      (first | (simp [go_sem, *]; done) | (go_keep))
      (fail)
    all_goals go_wp2
    all_goals (refine bodyPost_ret (v := .tuple #[.agg #[.int .i64 pa, .int .i64 pb], .agg #[.int .i64 qa, .int .i64 qb]]) (by simp [results, Try.results18, go_sem]) rfl ?_)
    all_goals exact ⟨rfl, by go_grown⟩
  · rw [show (i + 1) % l.length = 0 from by rw [show i + 1 = l.length from by omega, Nat.mod_self], hzz]
    have h1' : ¬ (i : Int) + 1 < n := by omega
    have h2' : (0 : Int) < n := by omega
    have h3' : 0 < n := by omega
    clear hP hpp hzz hn
    dsimp only at a0 a1 z0 z1 ⊢
    go_enter Try.func18, Try.ntmps18
    go_wp2
    go_region_held3 (fun w' => w'.cell? ⟨w.heap.size + 1 + 1 + 1, 0, none⟩ = some (.int .i64 pa) ∧ w'.cell? ⟨w.heap.size + 1 + 1 + 1, 1, none⟩ = some (.int .i64 pb) ∧ w'.cell? ⟨w.heap.size, 0, none⟩ = some (.slice (some ⟨g, 0, none⟩) n cap) ∧ w'.cell? ⟨g, 0, none⟩ = some (.int .i64 za) ∧ w'.cell? ⟨g, 1, none⟩ = some (.int .i64 zb))
      (first | (simp [go_sem, *]; done) | (go_keep))
      (fail)
    all_goals go_wp2
    all_goals (refine bodyPost_ret (v := .tuple #[.agg #[.int .i64 pa, .int .i64 pb], .agg #[.int .i64 za, .int .i64 zb]]) (by simp [results, Try.results18, go_sem]) rfl ?_)
    all_goals exact ⟨rfl, by go_grown⟩
end Go.Proofs.Ytgapfjjdccohkaa

/- outlinekeep: twice. -/
namespace Go.Proofs.Ytgapfjjdccohkaa
open Go.RowKit

set_option maxHeartbeats 1000000 in
theorem keepTwice_any (g n cap : Nat) (tw : Int) (l : List (Int × Int)) (hn : n = l.length) (h0 : 0 < n) (hs : Qm.Small l) (hn2 : n ≤ 4356) (w : World) (hP : PtsAt g l w) :
    Calls Try.prog 16 #[.agg #[.slice (some ⟨g, 0, none⟩) n cap, .int .i64 tw]] w fun e w' => e = .returned (.int .i64 (Qm.twiceOf l)) ∧ Below w.heap.size w w' := by
  have HP := hid hP
  have hg := hP.1
  have HN := hid hn
  clear hP hn
  go_enter Try.func16, Try.ntmps16
  go_wp2_with fail
  go_loopw [3, 4] (fun sm i wr => ∃ k : Nat, k ≤ n ∧ i = .int .i64 k ∧ sm = .int .i64 (Qm.fsum l k) ∧ wr.cell? ⟨w.heap.size, 0, none⟩ = some (.slice (some ⟨g, 0, none⟩) n cap) ∧ wr.cell? ⟨w.heap.size, 1, none⟩ = some (.int .i64 tw) ∧ Below w.heap.size w wr ∧ w.heap.size < wr.heap.size) (fun _ i _ => n - (intOf i).toNat)
  case atStart => exact ⟨0, by omega, rfl, rfl, by simp, by simp, by go_grown, by simp⟩
  case round =>
    obtain ⟨k, hk, rfl, rfl, b0, b1, hb, hz⟩ := hrel
    have HB := hid hb
    have ts := Qm.fsum_small hs k
    by_cases hlt : k < n
    · have hlt' : (k : Int) < (n : Int) := by omega
      have sp := hs.at k
      have sq := hs.at ((k + 1) % l.length)
      have m1 := Qm.mul_small sp.2.2.1 sp.2.2.2 sq.1 sq.2.1
      have m2 := Qm.mul_small sp.1 sp.2.1 sq.2.2.1 sq.2.2.2
      have ST := hid (fun W' (hW : Below wr.heap.size wr W') => step_any g n cap k tw l HN.out hlt hn2 W' ((HP.out.on HB.out hg).on hW (by have := HB.out.size; omega)))
      have E2 : Hid (Qm.fsum l (k + 1) = Qm.fsum l k + ((l.getD k (0, 0)).2 * (l.getD ((k + 1) % l.length) (0, 0)).1 - (l.getD k (0, 0)).1 * (l.getD ((k + 1) % l.length) (0, 0)).2)) := rfl
      obtain ⟨⟨pa, pb⟩, hpp⟩ : ∃ p, l.getD k (0, 0) = p := ⟨_, rfl⟩
      obtain ⟨⟨qa, qb⟩, hqq⟩ : ∃ p, l.getD ((k + 1) % l.length) (0, 0) = p := ⟨_, rfl⟩
      rw [hpp] at m1 m2 sp E2 ST
      rw [hqq] at m1 m2 sq E2 ST
      dsimp only at m1 m2 sp sq E2 ST
      clear hpp hqq hb
      go_wp2_with fail
      refine (ST.out _ (by go_grown)).mono ?_
      rintro e w2 ⟨rfl, hb2⟩
      have B2 := hid (show Below w.heap.size w w2 from HB.out.trans (hb2.mono (by have := HB.out.size; omega)))
      obtain ⟨hc, hf⟩ := bcell hb2
      have z2 := hb2.size
      have e0 := (hc w.heap.size 0 hz).trans b0
      have e1 := (hc w.heap.size 1 hz).trans b1
      clear hb2 hc hf b0 b1
      obtain ⟨u, hu⟩ : ∃ u, pb * qa = u := ⟨_, rfl⟩
      obtain ⟨v, hv⟩ : ∃ v, pa * qb = v := ⟨_, rfl⟩
      rw [hu] at m1 E2
      rw [hv] at m2 E2
      go_wp2
      go_roundw
      case rel =>
        have hz2 : w.heap.size < w2.heap.size := by omega
        refine ⟨k + 1, by omega, by go_num, by rw [E2.out]; go_num, ?_, ?_, ?_, ?_⟩
        · first | exact e0 | simp [go_sem, e0, hz2]
        · first | exact e1 | simp [go_sem, e1, hz2]
        · first | exact B2.out | exact (B2.out.alloc (by omega) _).alloc (by simp; omega) _
        · first | exact hz2 | (simp; omega)
      case measure => simp [intOf]; omega
    · have hlt' : ¬ (k : Int) < (n : Int) := by omega
      have hkn : k = n := by omega
      subst hkn
      go_wp2
      go_ret
      exact ⟨ret_int (by rw [Qm.twiceOf_fsum, ← HN.out]), HB.out⟩
end Go.Proofs.Ytgapfjjdccohkaa

/- outlinekeep: options. -/
namespace Go.Proofs.Ytgapfjjdccohkaa
open Go.RowKit

set_option maxHeartbeats 400000 in
theorem options_any (p : Int) (draws : ByteArray) (p1 : -9223372036854775808 ≤ p) (p2 : p ≤ 9223372036854775807) (w : World) :
    Calls Try.prog 15 #[.int .i64 p, .string draws] w fun e w' => (∃ r : Nat, e = .returned (.agg #[.int .i64 r, .string draws, .int .i64 0]) ∧ r ≤ 3) ∧ Below w.heap.size w w' := by
  go_enter Try.func15, Try.ntmps15
  go_wp2_with fail
  refine (pick_any p 4 p1 p2 (by omega) (by omega) _).mono ?_
  rintro e w1 ⟨⟨r, rfl, hr⟩, rfl⟩
  go_wp2
  refine bodyPost_ret (v := .agg #[.int .i64 r, .string draws, .int .i64 0]) (by simp [results, Try.results15, go_sem]) rfl ?_
  exact ⟨⟨r, rfl, by omega⟩, by go_grown⟩
end Go.Proofs.Ytgapfjjdccohkaa

/- The sides of a picture, pixel by pixel. Nothing of the program stands here. -/
namespace Go.Proofs.Ytgapfjjdccohkaa.Qm

/-- The sides round a black pixel. -/
def arL (bl : Int → Int → Bool) (x y : Int) : List Sd :=
  (if bl (x - 1) y then [] else [(x, y, 0)]) ++ (if bl x (y + 1) then [] else [(x, y + 1, 1)]) ++ (if bl (x + 1) y then [] else [(x + 1, y + 1, 2)]) ++ (if bl x (y - 1) then [] else [(x + 1, y, 3)])
/-- What is on the left of a side. -/
def lp (s : Sd) : Int × Int := (lpx s.1 s.2.2, lpy s.2.1 s.2.2)

theorem mem_arL {bl : Int → Int → Bool} {x y : Int} (hb : bl x y = true) (s : Sd) : s ∈ arL bl x y ↔ isS bl s = true ∧ lp s = (x, y) := by
  obtain ⟨a, b, d⟩ := s
  constructor
  · intro h
    simp only [arL, List.mem_append] at h
    rcases h with ((h | h) | h) | h
    · split at h
      · simp at h
      · rename_i hn
        simp only [List.mem_singleton, Prod.mk.injEq] at h
        obtain ⟨rfl, rfl, rfl⟩ := h
        exact ⟨by simp [isS, outQ, hb, hn], by simp [lp, lpx, lpy]⟩
    · split at h
      · simp at h
      · rename_i hn
        simp only [List.mem_singleton, Prod.mk.injEq] at h
        obtain ⟨rfl, rfl, rfl⟩ := h
        exact ⟨by simp [isS, outQ, hb, hn], by simp [lp, lpx, lpy]⟩
    · split at h
      · simp at h
      · rename_i hn
        simp only [List.mem_singleton, Prod.mk.injEq] at h
        obtain ⟨rfl, rfl, rfl⟩ := h
        exact ⟨by simp [isS, outQ, hb, hn], by simp [lp, lpx, lpy]⟩
    · split at h
      · simp at h
      · rename_i hn
        simp only [List.mem_singleton, Prod.mk.injEq] at h
        obtain ⟨rfl, rfl, rfl⟩ := h
        exact ⟨by simp [isS, outQ, hb, hn], by simp [lp, lpx, lpy]⟩
  · rintro ⟨hs, hl⟩
    have hd := isS_lt hs
    simp only [arL, List.mem_append]
    match d, hd with
    | 0, _ =>
      simp [lp, lpx, lpy] at hl
      obtain ⟨rfl, rfl⟩ := hl
      simp [isS, outQ] at hs
      refine .inl (.inl (.inl ?_))
      simp [hs.2]
    | 1, _ =>
      simp [lp, lpx, lpy] at hl
      obtain ⟨rfl, rfl⟩ := hl
      simp [isS, outQ] at hs
      refine .inl (.inl (.inr ?_))
      simp [hs.2]
    | 2, _ =>
      simp [lp, lpx, lpy] at hl
      obtain ⟨rfl, rfl⟩ := hl
      simp [isS, outQ] at hs
      refine .inl (.inr ?_)
      simp [hs.2]
    | 3, _ =>
      simp [lp, lpx, lpy] at hl
      obtain ⟨rfl, rfl⟩ := hl
      simp [isS, outQ] at hs
      refine .inr ?_
      simp [hs.2]

theorem nodup_arL (bl : Int → Int → Bool) (x y : Int) : (arL bl x y).Nodup := by
  unfold arL
  split <;> split <;> split <;> split <;> simp
theorem len_arL (bl : Int → Int → Bool) (x y : Int) : (arL bl x y).length ≤ 4 := by
  unfold arL
  split <;> split <;> split <;> split <;> simp

/-- The sides of pixel number i. -/
def pixL (bl : Int → Int → Bool) (W i : Nat) : List Sd := if bl (i % W : Nat) (i / W : Nat) then arL bl (i % W : Nat) (i / W : Nat) else []
/-- The sides of the first m pixels, row by row. -/
def sidesTo (bl : Int → Int → Bool) (W : Nat) : Nat → List Sd
  | 0 => []
  | m + 1 => sidesTo bl W m ++ pixL bl W m
theorem mem_pixL {bl : Int → Int → Bool} {W i : Nat} {s : Sd} : s ∈ pixL bl W i ↔ isS bl s = true ∧ lp s = (((i % W : Nat) : Int), ((i / W : Nat) : Int)) := by
  unfold pixL
  split
  · rename_i h; exact mem_arL h s
  · rename_i h
    simp only [List.not_mem_nil, false_iff, not_and]
    intro hs hl
    have hd := isS_lt hs
    obtain ⟨x, y, d⟩ := s
    rw [isS_lr _ _ _ _ hd] at hs
    have h1 : lpx x d = ((i % W : Nat) : Int) := congrArg Prod.fst hl
    have h2 : lpy y d = ((i / W : Nat) : Int) := congrArg Prod.snd hl
    rw [h1, h2] at hs
    simp at hs
    exact h hs.1
theorem len_sidesTo (bl : Int → Int → Bool) (W m : Nat) : (sidesTo bl W m).length ≤ 4 * m := by
  induction m with
  | zero => simp [sidesTo]
  | succ m ih =>
    have : (pixL bl W m).length ≤ 4 := by unfold pixL; split; exact len_arL _ _ _; simp
    simp only [sidesTo, List.length_append]; omega
theorem mem_sidesTo {bl : Int → Int → Bool} {W m : Nat} {s : Sd} : s ∈ sidesTo bl W m ↔ isS bl s = true ∧ ∃ i, i < m ∧ lp s = (((i % W : Nat) : Int), ((i / W : Nat) : Int)) := by
  induction m with
  | zero => simp [sidesTo]
  | succ m ih =>
    simp only [sidesTo, List.mem_append, ih, mem_pixL]
    constructor
    · rintro (⟨h, i, hi, e⟩ | ⟨h, e⟩)
      · exact ⟨h, i, by omega, e⟩
      · exact ⟨h, m, by omega, e⟩
    · rintro ⟨h, i, hi, e⟩
      rcases Nat.lt_or_ge i m with h1 | h1
      · exact .inl ⟨h, i, h1, e⟩
      · obtain rfl : i = m := by omega
        exact .inr ⟨h, e⟩
theorem nodup_sidesTo (bl : Int → Int → Bool) (W m : Nat) : (sidesTo bl W m).Nodup := by
  induction m with
  | zero => simp [sidesTo]
  | succ m ih =>
    refine List.nodup_append.2 ⟨ih, by unfold pixL; split; exact nodup_arL _ _ _; simp, fun a ha b hb e => ?_⟩
    subst e
    obtain ⟨_, i, hi, e1⟩ := mem_sidesTo.1 ha
    obtain ⟨_, e2⟩ := mem_pixL.1 hb
    rw [e1] at e2
    have a1 := congrArg Prod.fst e2
    have a2 := congrArg Prod.snd e2
    simp only at a1 a2
    have b1 : i % W = m % W := by omega
    have b2 : i / W = m / W := by omega
    have := Nat.div_add_mod i W
    have := Nat.div_add_mod m W
    rw [b1, b2] at *
    omega
/-- All sides of the picture. -/
theorem all_sidesTo {bl : Int → Int → Bool} {W H : Nat} (hp : Pic bl W H) (s : Sd) : s ∈ sidesTo bl W (W * H) ↔ isS bl s = true := by
  rw [mem_sidesTo]
  refine ⟨fun h => h.1, fun hs => ⟨hs, ?_⟩⟩
  have hd := isS_lt hs
  obtain ⟨x, y, d⟩ := s
  rw [isS_lr _ _ _ _ hd] at hs
  simp at hs
  have hb := hp.box _ _ hs.1
  obtain ⟨a, ha⟩ := Int.eq_ofNat_of_zero_le hb.1
  obtain ⟨b, hbb⟩ := Int.eq_ofNat_of_zero_le hb.2.2.1
  rw [ha, hbb] at hb
  have ha2 : a < W := by omega
  have hb2 : b < H := by omega
  refine ⟨b * W + a, ?_, ?_⟩
  · have : (b + 1) * W ≤ H * W := Nat.mul_le_mul_right _ hb2
    rw [Nat.add_mul] at this
    rw [Nat.mul_comm W H]; omega
  · have e1 : (b * W + a) % W = a := by rw [Nat.add_comm, Nat.add_mul_mod_self_right, Nat.mod_eq_of_lt ha2]
    have e2 : (b * W + a) / W = b := by rw [Nat.add_comm, Nat.add_mul_div_right _ _ (by omega), Nat.div_eq_of_lt ha2]; omega
    rw [e1, e2]
    exact Prod.ext ha hbb
end Go.Proofs.Ytgapfjjdccohkaa.Qm

/- outlinekeep: works. -/
namespace Go.Proofs.Ytgapfjjdccohkaa
open Go.RowKit

theorem sides_one : Qm.sidesTo (Pm.blackB 1 1 [49]) 1 (1 * 1) = [(0, 0, 0), (0, 1, 1), (1, 1, 2), (1, 0, 3)] := by decide
/-- Of one black pixel there is one cycle. -/
theorem res_one : Qm.Res (fB 1 1 ⟨#[49]⟩ 0 ⟨#[]⟩) (bB 1 1 ⟨#[49]⟩) Qm.key [((0, 0, 0), 4)] := by
  refine ⟨?_, by simp, ?_⟩
  · intro c hc
    simp only [List.mem_singleton] at hc
    subst hc
    refine ⟨⟨by decide, by decide, by decide, ?_⟩, ?_⟩
    · have : ∀ (i j : Fin 4), i.val < j.val → Qm.it (fB 1 1 ⟨#[49]⟩ 0 ⟨#[]⟩) i.val (0, 0, 0) ≠ Qm.it (fB 1 1 ⟨#[49]⟩ 0 ⟨#[]⟩) j.val (0, 0, 0) := by decide
      intro i j hij hj
      exact this ⟨i, by omega⟩ ⟨j, hj⟩ hij
    · have : ∀ (i : Fin 4), 0 < i.val → Qm.key (0, 0, 0) < Qm.key (Qm.it (fB 1 1 ⟨#[49]⟩ 0 ⟨#[]⟩) i.val (0, 0, 0)) := by decide
      intro i h0 hi
      exact this ⟨i, hi⟩ h0
  · intro t ht
    have h1 := (Qm.all_sidesTo (Qm.pic_of 1 1 [49] (by omega) (by omega)) t).2 ht
    rw [sides_one] at h1
    simp only [List.mem_cons, List.mem_nil_iff, or_false] at h1
    rcases h1 with rfl | rfl | rfl | rfl
    · exact ⟨_, List.mem_singleton.2 rfl, 0, by decide, by decide⟩
    · exact ⟨_, List.mem_singleton.2 rfl, 1, by decide, by decide⟩
    · exact ⟨_, List.mem_singleton.2 rfl, 2, by decide, by decide⟩
    · exact ⟨_, List.mem_singleton.2 rfl, 3, by decide, by decide⟩

/-- What one sees of the answer for one black pixel. -/
theorem one_shown {vl : Value} {w w' : World} (h : FindOut 1 1 ⟨#[49]⟩ 0 ⟨#[]⟩ w vl w') : Below w.heap.size w w' ∧ ∃ gl cap g c, vl = .slice (some ⟨gl, 0, none⟩) 1 cap ∧ gl < w'.heap.size ∧ g < w'.heap.size ∧ w'.cell? ⟨gl, 0, none⟩ = some (.slice (some ⟨g, 0, none⟩) 4 c) ∧ w'.cell? ⟨gl, 1, none⟩ = some (.int .i64 2)
    ∧ w'.cell? ⟨g, 0, none⟩ = some (.int .i64 0) ∧ w'.cell? ⟨g, 1, none⟩ = some (.int .i64 0) ∧ w'.cell? ⟨g, 2, none⟩ = some (.int .i64 0) ∧ w'.cell? ⟨g, 3, none⟩ = some (.int .i64 1) ∧ w'.cell? ⟨g, 4, none⟩ = some (.int .i64 1) ∧ w'.cell? ⟨g, 5, none⟩ = some (.int .i64 1) ∧ w'.cell? ⟨g, 6, none⟩ = some (.int .i64 1) ∧ w'.cell? ⟨g, 7, none⟩ = some (.int .i64 0) := by
  obtain ⟨L, h1, h2, h3, _⟩ := h
  refine ⟨h3, ?_⟩
  have e := h1.unique res_one
  obtain ⟨v, rfl⟩ : ∃ v, L = [(v, ((0, 0, 0), 4))] := by
    match L, e with
    | [], e => simp at e
    | [(v, c)], e => simp at e; subst e; exact ⟨v, rfl⟩
    | _ :: _ :: _, e => simp at e
  have sh := h2.shown (fun p hp => by simp at hp; subst hp; simp)
  obtain ⟨ao, cap, rfl, hr⟩ := sh.row
  obtain ⟨gl, rfl, hgl, hc⟩ := hr.resolve_left (by simp)
  obtain ⟨g, c, hv, _, hg, hp⟩ := sh.pts _ (List.mem_singleton.2 rfl)
  simp only at hv hp
  subst hv
  have s0 := shpV_at (fB 1 1 ⟨#[49]⟩ 0 ⟨#[]⟩) [((Value.slice (some ⟨g, 0, none⟩) 4 c), ((0, 0, 0), 4))] 0 (by simp)
  have c0 := hc _ _ s0.1
  have c1 := hc _ _ s0.2
  have ep : Qm.ptsOf (fB 1 1 ⟨#[49]⟩ 0 ⟨#[]⟩) ((0, 0, 0), 4) = [(0, 0), (0, 1), (1, 1), (1, 0)] := by decide
  have et : Qm.twiceOf (Qm.ptsOf (fB 1 1 ⟨#[49]⟩ 0 ⟨#[]⟩) ((0, 0, 0), 4)) = 2 := by decide
  simp only [List.getElem_cons_zero, et] at c0 c1
  rw [ep] at hp
  have p0 := hp 0 (by simp)
  have p1 := hp 1 (by simp)
  have p2 := hp 2 (by simp)
  have p3 := hp 3 (by simp)
  exact ⟨gl, cap, g, c, rfl, hgl, hg, c0, c1, p0.1, p0.2, p1.1, p1.2, p2.1, p2.2, p3.1, p3.2⟩

set_option maxRecDepth 4000 in
set_option maxHeartbeats 1000000 in
theorem works_any (w : World) :
    Calls Try.prog 12 #[] w fun e w' => e = .returned (.bool true) ∧ Below w.heap.size w w' := by
  go_enter Try.func12, Try.ntmps12
  go_wp2_with fail
  refine (cycles_yes 1 1 ⟨#[49]⟩ 0 ⟨#[]⟩ 0 _ (by decide) (by omega) (by omega) rfl (by omega)).mono ?_
  rintro e w1 ⟨vl, rfl, ho⟩
  obtain ⟨hb, gl, cap, g, c, rfl, hgl, hg, c0, c1, p0, p1, p2, p3, p4, p5, p6, p7⟩ := one_shown ho
  have B1 := hid (show Below w.heap.size w w1 from Below.trans (b := _) (by go_grown) (hb.mono (by simp)))
  clear hb ho
  go_wp2
  go_ret
  exact ⟨rfl, B1.out⟩
end Go.Proofs.Ytgapfjjdccohkaa

/- What Walked counts: sums by rows, what is ahead of a cycle in the answer. Nothing of the program stands here. -/
namespace Go.Proofs.Ytgapfjjdccohkaa.Qm
open Pm

theorem sN_bound {n : Nat} {g : Nat → Int} {m : Int} (e : ∀ i, i < n → 0 ≤ g i ∧ g i ≤ m) : 0 ≤ sN n g ∧ sN n g ≤ m * n := by
  induction n with
  | zero => simp [sN]
  | succ n ih =>
    have a := ih fun i hi => e i (by omega)
    have b := e n (by omega)
    simp only [sN]
    have : m * ((n + 1 : Nat) : Int) = m * n + m := by rw [show ((n + 1 : Nat) : Int) = (n : Int) + 1 from by omega, Int.mul_add]; omega
    rw [this]; omega
theorem cS_in (bl : Int → Int → Bool) (x y : Int) : 0 ≤ cS bl x y ∧ cS bl x y ≤ 2 := by
  unfold cS; split <;> split <;> omega
theorem row_cS (bl : Int → Int → Bool) (n : Nat) (y : Int) : 0 ≤ sN n (fun x => cS bl x y) ∧ sN n (fun x => cS bl x y) ≤ 2 * n := sN_bound fun _ _ => cS_in bl _ _
theorem bx_cS (bl : Int → Int → Bool) (W H : Nat) (hw : W ≤ 33) (hh : H ≤ 33) : 0 ≤ bx W H (cS bl) ∧ bx W H (cS bl) ≤ 2178 := by
  have a := sN_bound (n := H) (g := fun y => sN W fun x => cS bl x y) (m := 66) fun i _ => by have := row_cS bl W i; omega
  unfold bx
  omega
theorem sN_app (a b : Nat) (g : Nat → Int) : sN (a + b) g = sN a g + sN b fun i => g (a + i) := by
  induction b with
  | zero => simp [sN]
  | succ b ih => rw [← Nat.add_assoc]; simp only [sN, ih]; omega
/-- Black pixels, counted byte by byte. -/
theorem bits_rows (W H : Nat) (l : List UInt8) : sN (H * W) (fun i => if bitAt l i = true then 1 else 0) = bx W H (fun x y => if blackB W H l x y = true then 1 else 0) := by
  have key : ∀ h, h ≤ H → sN (h * W) (fun i => if bitAt l i = true then 1 else 0) = sN h fun y => sN W fun x => if blackB W H l x y = true then 1 else 0 := by
    intro h
    induction h with
    | zero => intro _; simp [sN]
    | succ h ih =>
      intro hh
      rw [Nat.succ_mul, sN_app, ih (by omega)]
      simp only [sN]
      congr 1
      refine sN_congr fun x hx => ?_
      rw [blackB_in W H l x h hx (by omega) (h * W) rfl]
  exact key H (Nat.le_refl _)

section
variable {f : Sd → Sd} {P : Sd → Prop} {R : List (Sd × Nat)} {i : Nat}
theorem Res.at (h : Res f P key R) (hi : i < R.length) : Canon f P key R[i] := h.1 _ (List.getElem_mem hi)
/-- No side of a cycle is on a cycle ahead of it. -/
theorem Res.fresh (h : Res f P key R) (hi : i < R.length) (m : Nat) : ¬ Tk f (R.take i) (it f m R[i].1) := by
  rintro ⟨c, hc, j, hj, e⟩
  obtain ⟨a, ha, rfl⟩ := List.mem_iff_getElem.1 hc
  simp only [List.length_take] at ha
  rw [List.getElem_take] at hj e
  have s := (h.at (i := a) (by omega)).share (h.at hi) hj e.symm
  have p := List.pairwise_iff_getElem.1 h.2.1 a i (by omega) hi (by omega)
  rw [s] at p
  omega
theorem Res.lt (h : Res f P key R) (hi : i + 1 < R.length) : key R[i].1 < key R[i + 1].1 := List.pairwise_iff_getElem.1 h.2.1 i (i + 1) (by omega) hi (by omega)
theorem take_next {α : Type} {R : List α} {i : Nat} (hi : i < R.length) : R.take (i + 1) = R.take i ++ [R[i]] := by
  rw [List.take_add_one, List.getElem?_eq_getElem hi]; rfl
theorem alS_app (f : Sd → Sd) (R S : List (Sd × Nat)) : alS f (R ++ S) = alS f R ++ alS f S := by simp [alS]
theorem cyS_len (f : Sd → Sd) (c : Sd × Nat) : (cyS f c).length = c.2 := by simp [cyS]
/-- How many sides the first i cycles have. -/
def totS (R : List (Sd × Nat)) (i : Nat) : Nat := ((R.take i).map (·.2)).sum
theorem totS_zero (R : List (Sd × Nat)) : totS R 0 = 0 := rfl
theorem totS_succ (hi : i < R.length) : totS R (i + 1) = totS R i + R[i].2 := by
  unfold totS; rw [take_next hi, List.map_append, List.sum_append, List.map_singleton, List.sum_singleton]
theorem len_alS (f : Sd → Sd) (R : List (Sd × Nat)) : (alS f R).length = (R.map (·.2)).sum := by
  induction R with
  | nil => rfl
  | cons c R ih => rw [alS_cons, List.length_append, ih, cyS_len]; simp
theorem totS_all (f : Sd → Sd) (R : List (Sd × Nat)) : totS R R.length = (alS f R).length := by
  unfold totS; rw [List.take_length, len_alS]
theorem totS_mono (R : List (Sd × Nat)) (i : Nat) : totS R i ≤ totS R R.length := by
  unfold totS
  rw [List.take_length]
  conv => rhs; rw [← List.take_append_drop i R]
  rw [List.map_append, List.sum_append]
  omega
/-- Twice the area of the first i cycles. -/
def areaS (f : Sd → Sd) (R : List (Sd × Nat)) (i : Nat) : Int := ((R.take i).map fun c => twiceOf (ptsOf f c)).sum
theorem areaS_zero (f : Sd → Sd) (R : List (Sd × Nat)) : areaS f R 0 = 0 := rfl
theorem areaS_succ (f : Sd → Sd) (hi : i < R.length) : areaS f R (i + 1) = areaS f R i + twiceOf (ptsOf f R[i]) := by
  unfold areaS; rw [take_next hi, List.map_append, List.sum_append, List.map_singleton, List.sum_singleton]
theorem areaS_all (f : Sd → Sd) (R : List (Sd × Nat)) : areaS f R R.length = (R.map fun c => twiceOf (ptsOf f c)).sum := by
  unfold areaS; rw [List.take_length]
theorem areaS_small (f : Sd → Sd) (R : List (Sd × Nat)) (hs : ∀ c ∈ R, Small (ptsOf f c)) : ∀ i, i ≤ R.length → -1024 * (totS R i : Int) ≤ areaS f R i ∧ areaS f R i ≤ 1024 * (totS R i : Int)
  | 0, _ => by simp [totS_zero, areaS_zero]
  | i + 1, hi => by
    have a := areaS_small f R hs i (by omega)
    have b := fsum_small (hs _ (List.getElem_mem (l := R) (n := i) (by omega))) (ptsOf f R[i]).length
    rw [← twiceOf_fsum, ptsOf_len] at b
    rw [areaS_succ f (by omega), totS_succ (by omega)]
    omega
end

section
variable {bl jn : Int → Int → Bool} {R : List (Sd × Nat)} {i : Nat}
theorem Canon.step_end {c : Sd × Nat} (h : Canon (nx bl jn) (fun s => isS bl s = true) key c) (k : Nat) : fromP (it (nx bl jn) ((k + 1) % c.2) c.1) = en (it (nx bl jn) k c.1) := by
  rw [← h.1.mod (k + 1)]; rfl
end
end Go.Proofs.Ytgapfjjdccohkaa.Qm

/- outlinekeep: sides. -/
namespace Go.Proofs.Ytgapfjjdccohkaa
open Go.RowKit

/-- A bitmap lies in the block b. -/
def Bmp (b W H : Nat) (s : ByteArray) (w : World) : Prop := b < w.heap.size ∧ w.cell? ⟨b, 0, none⟩ = some (.int .i64 W) ∧ w.cell? ⟨b, 1, none⟩ = some (.int .i64 H) ∧ w.cell? ⟨b, 2, none⟩ = some (.string s)
theorem Bmp.on {b W H : Nat} {s : ByteArray} {w w' : World} {B : Nat} (h : Bmp b W H s w) (hb : Below B w w') (hg : b < B) : Bmp b W H s w' :=
  ⟨Nat.lt_of_lt_of_le h.1 hb.size, (hb.cell (p := ⟨b, 0, none⟩) hg).trans h.2.1, (hb.cell (p := ⟨b, 1, none⟩) hg).trans h.2.2.1, (hb.cell (p := ⟨b, 2, none⟩) hg).trans h.2.2.2⟩

set_option maxRecDepth 4000 in
set_option maxHeartbeats 2000000 in
theorem keepSides_any (W H : Nat) (s : ByteArray) (w : World) (hw2 : W ≤ 32) (hh2 : H ≤ 32) (hl : s.size = W * H) :
    Calls Try.prog 21 #[.agg #[.int .i64 W, .int .i64 H, .string s]] w fun e w' => e = .returned (.int .i64 (Qm.bx (W + 1) (H + 1) (Qm.cS (Pm.blackB W H s.data.toList)))) ∧ Below w.heap.size w w' := by
  have HL := hid hl
  clear hl
  obtain ⟨bl, hbl⟩ : ∃ bl, bl = Pm.blackB W H s.data.toList := ⟨_, rfl⟩
  have KB := hid (fun (x y : Int) (w : World) => keepBlack_any W H s x y w hw2 hh2 HL.out)
  rw [← hbl] at KB ⊢
  clear hbl
  go_enter Try.func21, Try.ntmps21
  go_wp2_with fail
  go_loopw [3, 4] (fun nv yv wr => ∃ y : Nat, y ≤ H + 1 ∧ yv = .int .i64 y ∧ nv = .int .i64 (Qm.bx (W + 1) y (Qm.cS bl)) ∧ Bmp w.heap.size W H s wr ∧ Below w.heap.size w wr) (fun _ y _ => H + 1 - (intOf y).toNat)
  case atStart => exact ⟨0, by omega, rfl, rfl, ⟨by simp, by simp, by simp, by simp⟩, by go_grown⟩
  case round =>
    obtain ⟨y, hy, rfl, rfl, hm, hb⟩ := hrel
    have HM := hid hm
    have HB := hid hb
    clear hb
    have bn := Qm.bx_cS bl (W + 1) y (by omega) (by omega)
    by_cases hlt : y ≤ H
    · obtain ⟨hz, b0, b1, b2⟩ := hm
      have hlt' : (y : Int) ≤ (H : Int) := by omega
      go_wp2_with fail
      clear b0 b1 b2
      go_loopw [3, 5] (fun nv xv wr => ∃ x : Nat, x ≤ W + 1 ∧ xv = .int .i64 x ∧ nv = .int .i64 (Qm.bx (W + 1) y (Qm.cS bl) + Qm.sN x (fun x => Qm.cS bl x y)) ∧ Bmp w.heap.size W H s wr ∧ Below w.heap.size w wr) (fun _ x _ => W + 1 - (intOf x).toNat)
      case atStart => exact ⟨0, by omega, rfl, by simp [Qm.sN], HM.out, HB.out⟩
      case round =>
        clear HM HB
        obtain ⟨x, hx, rfl, rfl, hm, hb⟩ := hrel
        have HM := hid hm
        have HB := hid hb
        clear hb
        have rn := Qm.row_cS bl x y
        by_cases hlx : x ≤ W
        · obtain ⟨hz, b0, b1, b2⟩ := hm
          have hlx' : (x : Int) ≤ (W : Int) := by omega
          have EC := hid (show Qm.sN (x + 1) (fun x => Qm.cS bl x y) = Qm.sN x (fun x => Qm.cS bl x y) + ((if bl x y = bl ((x : Int) - 1) y then 0 else 1) + (if bl x y = bl x ((y : Int) - 1) then 0 else 1)) from rfl)
          obtain ⟨n0, hn0⟩ : ∃ n0, n0 = Qm.sN x (fun x => Qm.cS bl x y) := ⟨_, rfl⟩
          obtain ⟨m0, hm0⟩ : ∃ m0, m0 = Qm.bx (W + 1) y (Qm.cS bl) := ⟨_, rfl⟩
          rw [← hn0] at rn EC ⊢
          rw [← hm0] at bn ⊢
          have HN0 := hid hn0
          have HM0 := hid hm0
          clear hn0 hm0
          go_wp2_with fail
          refine (KB.out _ _ _).mono ?_
          rintro e w1 ⟨rfl, e1⟩
          have B1 := hid (show Below w.heap.size w w1 by rw [e1]; exact HB.out.alloc HB.out.size _)
          have M1 := HM.out.on (w' := w1) (B := wr.heap.size) (by rw [e1]; exact (Below.refl _ _).alloc (Nat.le_refl _) _) hz
          clear e1 b0 b1 b2 hz
          obtain ⟨hz, b0, b1, b2⟩ := M1
          go_wp2_with fail
          refine (KB.out _ _ _).mono ?_
          rintro e w2 ⟨rfl, e1⟩
          have B2 := hid (show Below w.heap.size w w2 by rw [e1]; exact B1.out.alloc B1.out.size _)
          have M2 := Bmp.on (w' := w2) (B := w1.heap.size) ⟨hz, b0, b1, b2⟩ (by rw [e1]; exact (Below.refl _ _).alloc (Nat.le_refl _) _) hz
          clear e1 b0 b1 b2 hz
          obtain ⟨hz, b0, b1, b2⟩ := M2
          go_wp2_with fail
          refine (KB.out _ _ _).mono ?_
          rintro e w3 ⟨rfl, e1⟩
          have B3 := hid (show Below w.heap.size w w3 by rw [e1]; exact B2.out.alloc B2.out.size _)
          have M3 := hid (Bmp.on (w' := w3) (B := w2.heap.size) ⟨hz, b0, b1, b2⟩ (by rw [e1]; exact (Below.refl _ _).alloc (Nat.le_refl _) _) hz)
          clear e1 b0 b1 b2 hz
          obtain ⟨u, hu⟩ : ∃ u, u = bl x y := ⟨_, rfl⟩
          obtain ⟨v, hv⟩ : ∃ v, v = bl ((x : Int) - 1) y := ⟨_, rfl⟩
          obtain ⟨t, ht⟩ : ∃ t, t = bl x ((y : Int) - 1) := ⟨_, rfl⟩
          rw [← hu, ← hv, ← ht] at EC
          rw [← hu, ← hv, ← ht]
          clear hu hv ht
          cases u <;> cases v <;> cases t
          all_goals go_wp2
          all_goals go_roundw
          all_goals first
            | exact ⟨x + 1, by omega, by go_num, by have := EC.out; simp at this; rw [this]; first | done | go_num, M3.out, B3.out⟩
            | (simp [intOf]; omega)
        · have hlx' : ¬ (x : Int) ≤ (W : Int) := by omega
          have hxe : x = W + 1 := by omega
          obtain ⟨hz, b0, b1, b2⟩ := hm
          go_wp2
          go_roundw
          case rel => exact ⟨y + 1, by omega, by go_num, by rw [hxe]; rfl, HM.out, HB.out⟩
          case measure => simp [intOf]; omega
    · have hlt' : ¬ (y : Int) ≤ (H : Int) := by omega
      have hye : y = H + 1 := by omega
      obtain ⟨hz, b0, b1, b2⟩ := hm
      go_wp2
      go_ret
      exact ⟨ret_int (by first | rfl | rw [hye]), HB.out⟩
end Go.Proofs.Ytgapfjjdccohkaa
