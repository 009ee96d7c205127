import Derived.Test.YtljfiefobnncaabK19
import Derived.Test.YtljfiefobnncaabK07
import Derived.Test.YtljfiefobnncaabK02
import Derived.Test.YtljfiefobnncaabK17
import Derived.Test.YtljfiefobnncaabK06

/- outline.Trace; lists of shapes to be read; outlinekeep.sameShapes. -/
namespace Go.Proofs.Ytljfiefobnncaab
open Go.RowKit

set_option maxRecDepth 4000 in
set_option maxHeartbeats 400000 in
theorem trace_no (W H : Int) (s : ByteArray) (pol : Int) (draws : ByteArray) (spk : Int) (w : World) (hm : mayB W H s.data.toList pol spk = false) :
    Calls Try.prog 8 #[.agg #[.int .i64 W, .int .i64 H, .string s], .agg #[.int .i64 pol, .string draws, .int .i64 spk]] w fun e w' => e = .returned (.tuple #[.slice none 0 0, .int .i64 4]) ∧ Below w.heap.size w w' := by
  go_enter Try.func8, Try.ntmps8
  go_wp2_with fail
  refine (polyFind_no W H s pol draws spk _ hm).mono ?_
  rintro e w1 ⟨rfl, hb⟩
  have HB := hid hb
  clear hb
  go_wp2
  go_ret2
  exact ⟨rfl, Below.trans (b := _) (by go_grown) (HB.out.mono (by simp; omega))⟩

set_option maxRecDepth 4000 in
set_option maxHeartbeats 400000 in
theorem trace_yes (W H : Nat) (s : ByteArray) (pol : Nat) (draws : ByteArray) (spk : Int) (w : World) (hm : mayB W H s.data.toList pol spk = true) (hw2 : W ≤ 32) (hh2 : H ≤ 32) (hl : s.size = W * H) (hp : pol ≤ 3) (s0 : 0 ≤ spk) (s1 : spk ≤ 1024) :
    Calls Try.prog 8 #[.agg #[.int .i64 W, .int .i64 H, .string s], .agg #[.int .i64 pol, .string draws, .int .i64 spk]] w fun e w' => ∃ vl, e = .returned (.tuple #[vl, .int .i64 0]) ∧ TraceOut W H s pol draws spk w vl w' := by
  have HL := hid hl
  clear hl
  go_enter Try.func8, Try.ntmps8
  go_wp2_with fail
  refine (polyFind_yes W H s pol draws spk _ hm hw2 hh2 HL.out hp s0 s1).mono ?_
  rintro e w1 ⟨vl, rfl, R, L, h1, h2, h3, h4, h5⟩
  have H1 := hid h1
  have H2 := hid h2
  have H3 := hid h3
  have H5 := hid h5
  clear h1 h2 h3 h5
  go_wp2
  go_ret2
  exact ⟨vl, rfl, R, L, H1.out, H2.out, H3.out.mono (by simp; omega), h4, Below.trans (b := _) (by go_grown) (H5.out.mono (by simp; omega))⟩

/-- A list of shapes, to be read. -/
structure ShownP (vl : Value) (L : List (Value × List (Int × Int))) (w : World) : Prop where
  row : ∃ ao cap, vl = .slice ao L.length cap ∧ (L.length = 0 ∨ ∃ gl, ao = some ⟨gl, 0, none⟩ ∧ gl < w.heap.size ∧ ∀ j u, (shpP L)[j]? = some u → w.cell? ⟨gl, j, none⟩ = some u)
  pts : ∀ p ∈ L, ∃ g cap, p.1 = .slice (some ⟨g, 0, none⟩) p.2.length cap ∧ 0 < p.2.length ∧ PtsAt g p.2 w
theorem RowP.shown {b : Nat} {vl : Value} {L : List (Value × List (Int × Int))} {w : World} (h : RowP b vl L w) (hn : ∀ p ∈ L, 0 < p.2.length) : ShownP vl L w := by
  refine ⟨?_, fun p hp => ?_⟩
  · obtain ⟨ao, cap, e⟩ := own_len h.row
    refine ⟨ao, cap, e, ?_⟩
    rcases h.row.2 with ⟨_, h0⟩ | ⟨g, cap', cur, e', _, hg, _⟩
    · exact .inl h0
    · right
      have e2 : ao = some ⟨g, 0, none⟩ := by rw [e] at e'; injection e'
      refine ⟨g, e2, (Array.getElem?_eq_some_iff.1 hg).1, fun j u hu => ?_⟩
      have := h.row.cells (g := g) (by rw [e']; rfl) j u hu
      rwa [add_zero_at] at this
  · obtain ⟨g, cap, e, _, h2, _⟩ := own_at (h.pts p hp) (hn p hp)
    exact ⟨g, cap, e, hn p hp, h2⟩
theorem ShownP.on {vl : Value} {L : List (Value × List (Int × Int))} {w w' : World} (h : ShownP vl L w) (hb : Below w.heap.size w w') : ShownP vl L w' := by
  refine ⟨?_, fun p hp => ?_⟩
  · obtain ⟨ao, cap, e, h1⟩ := h.row
    refine ⟨ao, cap, e, h1.imp id ?_⟩
    rintro ⟨gl, e2, h3, h4⟩
    exact ⟨gl, e2, Nat.lt_of_lt_of_le h3 hb.size, fun j u hu => (hb.cell (p := ⟨gl, j, none⟩) h3).trans (h4 j u hu)⟩
  · obtain ⟨g, cap, e, h2, h4⟩ := h.pts p hp
    exact ⟨g, cap, e, h2, h4.on hb h4.1⟩
theorem shpP_at (L : List (Value × List (Int × Int))) : ∀ (j : Nat) (h : j < L.length), (shpP L)[j * 2]? = some L[j].1 ∧ (shpP L)[j * 2 + 1]? = some (.int .i64 (Qm.twiceOf L[j].2)) := by
  induction L with
  | nil => intro j h; simp at h
  | cons p L ih =>
    intro j h
    have e : shpP (p :: L) = p.1 :: .int .i64 (Qm.twiceOf p.2) :: shpP L := by simp [shpP]
    cases j with
    | zero => rw [e]; simp
    | succ j =>
      have := ih j (by simpa using h)
      rw [e, show (j + 1) * 2 = j * 2 + 1 + 1 from by omega, show j * 2 + 1 + 1 + 1 = (j * 2 + 1) + 1 + 1 from by omega]
      simpa using this

end Go.Proofs.Ytljfiefobnncaab
/- The small functions of outlinekeep: black, before, code, options. -/
namespace Go.Proofs.Ytljfiefobnncaab
open Go.RowKit



end Go.Proofs.Ytljfiefobnncaab
/- outlinekeep: code, isSide. -/
namespace Go.Proofs.Ytljfiefobnncaab
open Go.RowKit

end Go.Proofs.Ytljfiefobnncaab
/- outlinekeep: isSide, step. -/
namespace Go.Proofs.Ytljfiefobnncaab
open Go.RowKit

end Go.Proofs.Ytljfiefobnncaab
/- outlinekeep: step, twice. -/
namespace Go.Proofs.Ytljfiefobnncaab
open Go.RowKit





end Go.Proofs.Ytljfiefobnncaab

/- outlinekeep: twice. -/
namespace Go.Proofs.Ytljfiefobnncaab
open Go.RowKit





end Go.Proofs.Ytljfiefobnncaab

/- outlinekeep: options. -/
namespace Go.Proofs.Ytljfiefobnncaab
open Go.RowKit

set_option maxRecDepth 4000 in
set_option maxHeartbeats 400000 in
theorem options_any (p : Int) (draws : ByteArray) (p1 : -9223372036854775808 ≤ p) (p2 : p ≤ 9223372036854775807) (w : World) :
    Calls Try.prog 6 #[.int .i64 p, .string draws] w fun e w' => (∃ r : Nat, e = .returned (.agg #[.int .i64 r, .string draws, .int .i64 0]) ∧ r ≤ 3) ∧ Below w.heap.size w w' := by
  go_enter Try.func6, Try.ntmps6
  go_wp2_with fail
  refine (pick_any p 4 p1 p2 (by omega) (by omega) _).mono ?_
  rintro e w1 ⟨⟨r, rfl, hr⟩, rfl⟩
  go_wp2
  refine bodyPost_ret (v := .agg #[.int .i64 r, .string draws, .int .i64 0]) (by simp [results, Try.results6, go_sem]) rfl ?_
  exact ⟨⟨r, rfl, by omega⟩, by go_grown⟩
end Go.Proofs.Ytljfiefobnncaab

/- The sides of a picture, pixel by pixel. Nothing of the program stands here. -/
namespace Go.Proofs.Ytljfiefobnncaab.Qm

/-- The sides round a black pixel. -/
def arL (bl : Int → Int → Bool) (x y : Int) : List Sd :=
  (if bl (x - 1) y then [] else [(x, y, 0)]) ++ (if bl x (y + 1) then [] else [(x, y + 1, 1)]) ++ (if bl (x + 1) y then [] else [(x + 1, y + 1, 2)]) ++ (if bl x (y - 1) then [] else [(x + 1, y, 3)])
/-- What is on the left of a side. -/
def lp (s : Sd) : Int × Int := (lpx s.1 s.2.2, lpy s.2.1 s.2.2)

theorem mem_arL {bl : Int → Int → Bool} {x y : Int} (hb : bl x y = true) (s : Sd) : s ∈ arL bl x y ↔ isS bl s = true ∧ lp s = (x, y) := by
  obtain ⟨a, b, d⟩ := s
  constructor
  · intro h
    simp only [arL, List.mem_append] at h
    rcases h with ((h | h) | h) | h
    · split at h
      · simp at h
      · rename_i hn
        simp only [List.mem_singleton, Prod.mk.injEq] at h
        obtain ⟨rfl, rfl, rfl⟩ := h
        exact ⟨by simp [isS, outQ, hb, hn], by simp [lp, lpx, lpy]⟩
    · split at h
      · simp at h
      · rename_i hn
        simp only [List.mem_singleton, Prod.mk.injEq] at h
        obtain ⟨rfl, rfl, rfl⟩ := h
        exact ⟨by simp [isS, outQ, hb, hn], by simp [lp, lpx, lpy]⟩
    · split at h
      · simp at h
      · rename_i hn
        simp only [List.mem_singleton, Prod.mk.injEq] at h
        obtain ⟨rfl, rfl, rfl⟩ := h
        exact ⟨by simp [isS, outQ, hb, hn], by simp [lp, lpx, lpy]⟩
    · split at h
      · simp at h
      · rename_i hn
        simp only [List.mem_singleton, Prod.mk.injEq] at h
        obtain ⟨rfl, rfl, rfl⟩ := h
        exact ⟨by simp [isS, outQ, hb, hn], by simp [lp, lpx, lpy]⟩
  · rintro ⟨hs, hl⟩
    have hd := isS_lt hs
    simp only [arL, List.mem_append]
    match d, hd with
    | 0, _ =>
      simp [lp, lpx, lpy] at hl
      obtain ⟨rfl, rfl⟩ := hl
      simp [isS, outQ] at hs
      refine .inl (.inl (.inl ?_))
      simp [hs.2]
    | 1, _ =>
      simp [lp, lpx, lpy] at hl
      obtain ⟨rfl, rfl⟩ := hl
      simp [isS, outQ] at hs
      refine .inl (.inl (.inr ?_))
      simp [hs.2]
    | 2, _ =>
      simp [lp, lpx, lpy] at hl
      obtain ⟨rfl, rfl⟩ := hl
      simp [isS, outQ] at hs
      refine .inl (.inr ?_)
      simp [hs.2]
    | 3, _ =>
      simp [lp, lpx, lpy] at hl
      obtain ⟨rfl, rfl⟩ := hl
      simp [isS, outQ] at hs
      refine .inr ?_
      simp [hs.2]

theorem nodup_arL (bl : Int → Int → Bool) (x y : Int) : (arL bl x y).Nodup := by
  unfold arL
  split <;> split <;> split <;> split <;> simp
theorem len_arL (bl : Int → Int → Bool) (x y : Int) : (arL bl x y).length ≤ 4 := by
  unfold arL
  split <;> split <;> split <;> split <;> simp

/-- The sides of pixel number i. -/
def pixL (bl : Int → Int → Bool) (W i : Nat) : List Sd := if bl (i % W : Nat) (i / W : Nat) then arL bl (i % W : Nat) (i / W : Nat) else []
/-- The sides of the first m pixels, row by row. -/
def sidesTo (bl : Int → Int → Bool) (W : Nat) : Nat → List Sd
  | 0 => []
  | m + 1 => sidesTo bl W m ++ pixL bl W m
theorem mem_pixL {bl : Int → Int → Bool} {W i : Nat} {s : Sd} : s ∈ pixL bl W i ↔ isS bl s = true ∧ lp s = (((i % W : Nat) : Int), ((i / W : Nat) : Int)) := by
  unfold pixL
  split
  · rename_i h; exact mem_arL h s
  · rename_i h
    simp only [List.not_mem_nil, false_iff, not_and]
    intro hs hl
    have hd := isS_lt hs
    obtain ⟨x, y, d⟩ := s
    rw [isS_lr _ _ _ _ hd] at hs
    have h1 : lpx x d = ((i % W : Nat) : Int) := congrArg Prod.fst hl
    have h2 : lpy y d = ((i / W : Nat) : Int) := congrArg Prod.snd hl
    rw [h1, h2] at hs
    simp at hs
    exact h hs.1
theorem len_sidesTo (bl : Int → Int → Bool) (W m : Nat) : (sidesTo bl W m).length ≤ 4 * m := by
  induction m with
  | zero => simp [sidesTo]
  | succ m ih =>
    have : (pixL bl W m).length ≤ 4 := by unfold pixL; split; exact len_arL _ _ _; simp
    simp only [sidesTo, List.length_append]; omega
theorem mem_sidesTo {bl : Int → Int → Bool} {W m : Nat} {s : Sd} : s ∈ sidesTo bl W m ↔ isS bl s = true ∧ ∃ i, i < m ∧ lp s = (((i % W : Nat) : Int), ((i / W : Nat) : Int)) := by
  induction m with
  | zero => simp [sidesTo]
  | succ m ih =>
    simp only [sidesTo, List.mem_append, ih, mem_pixL]
    constructor
    · rintro (⟨h, i, hi, e⟩ | ⟨h, e⟩)
      · exact ⟨h, i, by omega, e⟩
      · exact ⟨h, m, by omega, e⟩
    · rintro ⟨h, i, hi, e⟩
      rcases Nat.lt_or_ge i m with h1 | h1
      · exact .inl ⟨h, i, h1, e⟩
      · obtain rfl : i = m := by omega
        exact .inr ⟨h, e⟩
theorem nodup_sidesTo (bl : Int → Int → Bool) (W m : Nat) : (sidesTo bl W m).Nodup := by
  induction m with
  | zero => simp [sidesTo]
  | succ m ih =>
    refine List.nodup_append.2 ⟨ih, by unfold pixL; split; exact nodup_arL _ _ _; simp, fun a ha b hb e => ?_⟩
    subst e
    obtain ⟨_, i, hi, e1⟩ := mem_sidesTo.1 ha
    obtain ⟨_, e2⟩ := mem_pixL.1 hb
    rw [e1] at e2
    have a1 := congrArg Prod.fst e2
    have a2 := congrArg Prod.snd e2
    simp only at a1 a2
    have b1 : i % W = m % W := by omega
    have b2 : i / W = m / W := by omega
    have := Nat.div_add_mod i W
    have := Nat.div_add_mod m W
    rw [b1, b2] at *
    omega
/-- All sides of the picture. -/
theorem all_sidesTo {bl : Int → Int → Bool} {W H : Nat} (hp : Pic bl W H) (s : Sd) : s ∈ sidesTo bl W (W * H) ↔ isS bl s = true := by
  rw [mem_sidesTo]
  refine ⟨fun h => h.1, fun hs => ⟨hs, ?_⟩⟩
  have hd := isS_lt hs
  obtain ⟨x, y, d⟩ := s
  rw [isS_lr _ _ _ _ hd] at hs
  simp at hs
  have hb := hp.box _ _ hs.1
  obtain ⟨a, ha⟩ := Int.eq_ofNat_of_zero_le hb.1
  obtain ⟨b, hbb⟩ := Int.eq_ofNat_of_zero_le hb.2.2.1
  rw [ha, hbb] at hb
  have ha2 : a < W := by omega
  have hb2 : b < H := by omega
  refine ⟨b * W + a, ?_, ?_⟩
  · have : (b + 1) * W ≤ H * W := Nat.mul_le_mul_right _ hb2
    rw [Nat.add_mul] at this
    rw [Nat.mul_comm W H]; omega
  · have e1 : (b * W + a) % W = a := by rw [Nat.add_comm, Nat.add_mul_mod_self_right, Nat.mod_eq_of_lt ha2]
    have e2 : (b * W + a) / W = b := by rw [Nat.add_comm, Nat.add_mul_div_right _ _ (by omega), Nat.div_eq_of_lt ha2]; omega
    rw [e1, e2]
    exact Prod.ext ha hbb
end Go.Proofs.Ytljfiefobnncaab.Qm

/- outlinekeep: works. -/
namespace Go.Proofs.Ytljfiefobnncaab
open Go.RowKit

theorem sides_one : Qm.sidesTo (Pm.blackB 1 1 [49]) 1 (1 * 1) = [(0, 0, 0), (0, 1, 1), (1, 1, 2), (1, 0, 3)] := by decide
/-- Of one black pixel there is one cycle. -/
theorem res_one : Qm.Res (fB 1 1 ⟨#[49]⟩ 0 ⟨#[]⟩) (bB 1 1 ⟨#[49]⟩) Qm.key [((0, 0, 0), 4)] := by
  refine ⟨?_, by simp, ?_⟩
  · intro c hc
    simp only [List.mem_singleton] at hc
    subst hc
    refine ⟨⟨by decide, by decide, by decide, ?_⟩, ?_⟩
    · have : ∀ (i j : Fin 4), i.val < j.val → Qm.it (fB 1 1 ⟨#[49]⟩ 0 ⟨#[]⟩) i.val (0, 0, 0) ≠ Qm.it (fB 1 1 ⟨#[49]⟩ 0 ⟨#[]⟩) j.val (0, 0, 0) := by decide
      intro i j hij hj
      exact this ⟨i, by omega⟩ ⟨j, hj⟩ hij
    · have : ∀ (i : Fin 4), 0 < i.val → Qm.key (0, 0, 0) < Qm.key (Qm.it (fB 1 1 ⟨#[49]⟩ 0 ⟨#[]⟩) i.val (0, 0, 0)) := by decide
      intro i h0 hi
      exact this ⟨i, hi⟩ h0
  · intro t ht
    have h1 := (Qm.all_sidesTo (Qm.pic_of 1 1 [49] (by omega) (by omega)) t).2 ht
    rw [sides_one] at h1
    simp only [List.mem_cons, List.mem_nil_iff, or_false] at h1
    rcases h1 with rfl | rfl | rfl | rfl
    · exact ⟨_, List.mem_singleton.2 rfl, 0, by decide, by decide⟩
    · exact ⟨_, List.mem_singleton.2 rfl, 1, by decide, by decide⟩
    · exact ⟨_, List.mem_singleton.2 rfl, 2, by decide, by decide⟩
    · exact ⟨_, List.mem_singleton.2 rfl, 3, by decide, by decide⟩

/-- What one sees of the answer for one black pixel. -/
theorem one_shown {vl : Value} {w w' : World} (h : FindOut 1 1 ⟨#[49]⟩ 0 ⟨#[]⟩ w vl w') : Below w.heap.size w w' ∧ ∃ gl cap g c, vl = .slice (some ⟨gl, 0, none⟩) 1 cap ∧ gl < w'.heap.size ∧ g < w'.heap.size ∧ w'.cell? ⟨gl, 0, none⟩ = some (.slice (some ⟨g, 0, none⟩) 4 c) ∧ w'.cell? ⟨gl, 1, none⟩ = some (.int .i64 2)
    ∧ w'.cell? ⟨g, 0, none⟩ = some (.int .i64 0) ∧ w'.cell? ⟨g, 1, none⟩ = some (.int .i64 0) ∧ w'.cell? ⟨g, 2, none⟩ = some (.int .i64 0) ∧ w'.cell? ⟨g, 3, none⟩ = some (.int .i64 1) ∧ w'.cell? ⟨g, 4, none⟩ = some (.int .i64 1) ∧ w'.cell? ⟨g, 5, none⟩ = some (.int .i64 1) ∧ w'.cell? ⟨g, 6, none⟩ = some (.int .i64 1) ∧ w'.cell? ⟨g, 7, none⟩ = some (.int .i64 0) := by
  obtain ⟨L, h1, h2, h3, _⟩ := h
  refine ⟨h3, ?_⟩
  have e := h1.unique res_one
  obtain ⟨v, rfl⟩ : ∃ v, L = [(v, ((0, 0, 0), 4))] := by
    match L, e with
    | [], e => simp at e
    | [(v, c)], e => simp at e; subst e; exact ⟨v, rfl⟩
    | _ :: _ :: _, e => simp at e
  have sh := h2.shown (fun p hp => by simp at hp; subst hp; simp)
  obtain ⟨ao, cap, rfl, hr⟩ := sh.row
  obtain ⟨gl, rfl, hgl, hc⟩ := hr.resolve_left (by simp)
  obtain ⟨g, c, hv, _, hg, hp⟩ := sh.pts _ (List.mem_singleton.2 rfl)
  simp only at hv hp
  subst hv
  have s0 := shpV_at (fB 1 1 ⟨#[49]⟩ 0 ⟨#[]⟩) [((Value.slice (some ⟨g, 0, none⟩) 4 c), ((0, 0, 0), 4))] 0 (by simp)
  have c0 := hc _ _ s0.1
  have c1 := hc _ _ s0.2
  have ep : Qm.ptsOf (fB 1 1 ⟨#[49]⟩ 0 ⟨#[]⟩) ((0, 0, 0), 4) = [(0, 0), (0, 1), (1, 1), (1, 0)] := by decide
  have et : Qm.twiceOf (Qm.ptsOf (fB 1 1 ⟨#[49]⟩ 0 ⟨#[]⟩) ((0, 0, 0), 4)) = 2 := by decide
  simp only [List.getElem_cons_zero, et] at c0 c1
  rw [ep] at hp
  have p0 := hp 0 (by simp)
  have p1 := hp 1 (by simp)
  have p2 := hp 2 (by simp)
  have p3 := hp 3 (by simp)
  exact ⟨gl, cap, g, c, rfl, hgl, hg, c0, c1, p0.1, p0.2, p1.1, p1.2, p2.1, p2.2, p3.1, p3.2⟩

set_option maxRecDepth 4000 in
set_option maxHeartbeats 1000000 in
theorem works_any (w : World) :
    Calls Try.prog 10 #[] w fun e w' => e = .returned (.bool true) ∧ Below w.heap.size w w' := by
  go_enter Try.func10, Try.ntmps10
  go_wp2_with fail
  refine (cycles_yes 1 1 ⟨#[49]⟩ 0 ⟨#[]⟩ 0 _ (by decide) (by omega) (by omega) rfl (by omega)).mono ?_
  rintro e w1 ⟨vl, rfl, ho⟩
  obtain ⟨hb, gl, cap, g, c, rfl, hgl, hg, c0, c1, p0, p1, p2, p3, p4, p5, p6, p7⟩ := one_shown ho
  have B1 := hid (show Below w.heap.size w w1 from Below.trans (b := _) (by go_grown) (hb.mono (by simp)))
  clear hb ho
  go_wp2
  go_ret
  exact ⟨rfl, B1.out⟩
end Go.Proofs.Ytljfiefobnncaab
