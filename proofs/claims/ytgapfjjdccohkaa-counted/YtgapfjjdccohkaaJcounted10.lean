import Derived.Test.YtgapfjjdccohkaaJcounted09
import Derived.Test.YtgapfjjdccohkaaJcounted02
import Derived.Test.YtgapfjjdccohkaaJcounted03
import Derived.Test.YtgapfjjdccohkaaJcounted06

/- outlinekeep: what Walked asks first: options and Cycles beside a bitmap that lies in a box. -/
namespace Go.Proofs.Ytgapfjjdccohkaa
open Go.RowKit

theorem RawIs.on {ao : Option Addr} {len : Nat} {w w' : World} (h : RawIs ao len w) (hb : Below w.heap.size w w') : RawIs ao len w' := by
  rcases h with h | ⟨b, off, e, hlt, hc⟩
  · exact .inl h
  · refine .inr ⟨b, off, e, Nat.lt_of_lt_of_le hlt hb.size, fun j hj => ?_⟩
    obtain ⟨z, hz⟩ := hc j hj
    exact ⟨z, (hb.cell (p := ⟨b, off + j, none⟩) hlt).trans hz⟩
theorem inb_new (w : World) (W H : Nat) (s : ByteArray) (t : TypeId) : Inb w.heap.size W H s w (w.alloc (.cells #[.int .i64 W, .int .i64 H, .string s] t)).drew :=
  ⟨by simp [go_sem], by simp [go_sem], by simp [go_sem], ((Below.refl _ _).alloc (Nat.le_refl _) _).trans ⟨rfl, rfl, rfl, Nat.le_refl _, fun _ _ => rfl⟩, by simp [go_sem]⟩
theorem Inb.bmp {B W H : Nat} {s : ByteArray} {w wr : World} (h : Inb B W H s w wr) : Bmp B W H s wr := ⟨h.2.2.2.2, h.1, h.2.1, h.2.2.1⟩
theorem options_inb {B W H : Nat} {s : ByteArray} {w wx : World} (hI : Inb B W H s w wx) (p : Int) (draws : ByteArray) (p1 : -9223372036854775808 ≤ p) (p2 : p ≤ 9223372036854775807) :
    Calls Try.prog 15 #[.int .i64 p, .string draws] wx fun e w' => (∃ r : Nat, e = .returned (.agg #[.int .i64 r, .string draws, .int .i64 0]) ∧ r ≤ 3) ∧ Inb B W H s w w' :=
  (options_any p draws p1 p2 wx).mono fun _ _ ⟨h, hb⟩ => ⟨h, hI.on hb⟩
theorem cycles_inb {B W H : Nat} {s : ByteArray} {w wx : World} (hI : Inb B W H s w wx) (pol : Nat) (draws : ByteArray) (spk : Int) (hm : mayB W H s.data.toList pol spk = true) (hw2 : W ≤ 32) (hh2 : H ≤ 32) (hl : s.size = W * H) (hp : pol ≤ 3) :
    Calls Try.prog 14 #[.agg #[.int .i64 W, .int .i64 H, .string s], .agg #[.int .i64 pol, .string draws, .int .i64 spk]] wx fun e w' => ∃ vl, e = .returned (.tuple #[vl, .int .i64 0]) ∧ (∃ L, Qm.Res (fB W H s pol draws) (bB W H s) Qm.key (L.map (·.2)) ∧ Rowed (fB W H s pol draws) (B + 1) vl L w' ∧ L.length ≤ 1200) ∧ Inb B W H s w w' :=
  (cycles_yes W H s pol draws spk wx hm hw2 hh2 hl hp).mono fun _ _ ⟨vl, e, L, h1, h2, h3, h4⟩ => ⟨vl, e, ⟨L, h1, ⟨h2.row.mono hI.2.2.2.2, fun p hp => (h2.pts p hp).mono hI.2.2.2.2, h2.apart⟩, h4⟩, hI.on h3⟩
theorem good_of {W H : Nat} {l : List UInt8} (h1 : 1 ≤ W) (h2 : W ≤ 32) (h3 : 1 ≤ H) (h4 : H ≤ 32) (hl : l.length = W * H) (ha : l.all Pm.okPix = true) : Pm.goodB W H l = true :=
  Pm.goodB_yes (by simp [Pm.sideB]; omega) (by simp [Pm.sideB]; omega) (by rw [hl]; simp) ha
theorem may_of {W H : Nat} {l : List UInt8} {pol spk : Int} (h : Pm.goodB W H l = true) (p0 : 0 ≤ pol) (p3 : pol ≤ 3) (s0 : 0 ≤ spk) (s1 : spk ≤ 1024) : mayB W H l pol spk = true := by
  rw [mayB_good ⟨p0, p3⟩ ⟨s0, s1⟩]; exact h

/-- In Walked's loop: the shape number i stands where it stood, the marks are G. -/
def Wd (gg gl i g m c : Nat) (tw : Int) (X : World) (G : Nat → Bool) (w : World) : Prop :=
  w.cell? ⟨gl, i * 2, none⟩ = some (.slice (some ⟨g, 0, none⟩) m c) ∧ w.cell? ⟨gl, i * 2 + 1, none⟩ = some (.int .i64 tw) ∧ Below gg X w ∧ GoneAt gg 4356 G w
theorem Wd.on {gg gl i g m c : Nat} {tw : Int} {X : World} {G : Nat → Bool} {w w' : World} (h : Wd gg gl i g m c tw X G w) (hg : gl < gg) (hb : Below w.heap.size w w') : Wd gg gl i g m c tw X G w' := by
  obtain ⟨h1, h2, h3, h4⟩ := h
  have := h4.1
  exact ⟨(hb.cell (p := ⟨gl, i * 2, none⟩) (show gl < _ by omega)).trans h1, (hb.cell (p := ⟨gl, i * 2 + 1, none⟩) (show gl < _ by omega)).trans h2, h3.trans (hb.mono (by omega)), h4.on hb h4.1⟩
theorem Wd.drew {gg gl i g m c : Nat} {tw : Int} {X : World} {G : Nat → Bool} {w : World} (h : Wd gg gl i g m c tw X G w) (hg : gl < gg) : Wd gg gl i g m c tw X G w.drew :=
  h.on hg ⟨rfl, rfl, rfl, Nat.le_refl _, fun _ _ => rfl⟩
theorem twice_wd {gg gl i g m c : Nat} {X : World} {G : Nat → Bool} {w : World} (l : List (Int × Int)) (h : Wd gg gl i g m c (Qm.twiceOf l) X G w) (hg : gl < gg) (hn : m = l.length) (h0 : 0 < m) (hs : Qm.Small l) (hn2 : m ≤ 4356) (hP : PtsAt g l X) (hgg : gg = X.heap.size) :
    Calls Try.prog 16 #[.agg #[.slice (some ⟨g, 0, none⟩) m c, .int .i64 (Qm.twiceOf l)]] w fun e w' => e = .returned (.int .i64 (Qm.twiceOf l)) ∧ Wd gg gl i g m c (Qm.twiceOf l) X G w' :=
  (keepTwice_any g m c _ l hn h0 hs hn2 w (hP.on h.2.2.1 (by rw [hgg]; exact hP.1))).mono fun _ _ ⟨h1, h2⟩ => ⟨h1, h.on hg h2⟩
/-- What stands at the shape number i. -/
theorem Shown.at {f : Qm.Sd → Qm.Sd} {al : Option Addr} {cl n : Nat} {L : List (Value × (Qm.Sd × Nat))} {X : World} (h : Shown f (.slice al n cl) L X) {R : List (Qm.Sd × Nat)} (hR : R = L.map (·.2)) {gl : Nat} (hc : ∀ j u, (shpV f L)[j]? = some u → X.cell? ⟨gl, j, none⟩ = some u) {i : Nat} (hi : i < R.length) :
    ∃ g c, 0 < R[i].2 ∧ PtsAt g (Qm.ptsOf f R[i]) X ∧ X.cell? ⟨gl, i * 2, none⟩ = some (.slice (some ⟨g, 0, none⟩) R[i].2 c) ∧ X.cell? ⟨gl, i * 2 + 1, none⟩ = some (.int .i64 (Qm.twiceOf (Qm.ptsOf f R[i]))) := by
  subst hR
  have hi' : i < L.length := by simpa using hi
  obtain ⟨g, c, e, h0, hp⟩ := h.pts L[i] (List.getElem_mem hi')
  have s := shpV_at f L i hi'
  rw [e] at s
  refine ⟨g, c, ?_⟩
  simp only [List.getElem_map]
  exact ⟨h0, hp, hc _ _ s.1, hc _ _ s.2⟩

/-- .. and beside it the shape ahead of it, and both first points. -/
def Wp (gg gl j i g m c g' m' c' : Nat) (tw xa ya xb yb : Int) (X : World) (G : Nat → Bool) (w : World) : Prop :=
  w.cell? ⟨gl, j * 2, none⟩ = some (.slice (some ⟨g', 0, none⟩) m' c') ∧ w.cell? ⟨g', 0, none⟩ = some (.int .i64 xa) ∧ w.cell? ⟨g', 1, none⟩ = some (.int .i64 ya) ∧ w.cell? ⟨g, 0, none⟩ = some (.int .i64 xb) ∧ w.cell? ⟨g, 1, none⟩ = some (.int .i64 yb) ∧ w.cell? ⟨gl, i * 2, none⟩ = some (.slice (some ⟨g, 0, none⟩) m c) ∧ w.cell? ⟨gl, i * 2 + 1, none⟩ = some (.int .i64 tw) ∧ Below gg X w ∧ GoneAt gg 4356 G w
theorem Wp.mk' {gg gl j i g m c g' m' c' : Nat} {tw : Int} {X : World} {G : Nat → Bool} {w : World} {l l' : List (Int × Int)} (h : Wd gg gl i g m c tw X G w) (hgl : gl < gg) (hX : gg = X.heap.size) (hc : X.cell? ⟨gl, j * 2, none⟩ = some (.slice (some ⟨g', 0, none⟩) m' c')) (hl : PtsAt g l X) (hl' : PtsAt g' l' X) (h0 : 0 < l.length) (h0' : 0 < l'.length) :
    Wp gg gl j i g m c g' m' c' tw (l'.getD 0 (0, 0)).1 (l'.getD 0 (0, 0)).2 (l.getD 0 (0, 0)).1 (l.getD 0 (0, 0)).2 X G w := by
  have b := h.2.2.1
  have z := hl.1
  have z' := hl'.1
  have p := (hl.on b (by omega)).2 0 h0
  have p' := (hl'.on b (by omega)).2 0 h0'
  exact ⟨(b.cell (p := ⟨gl, j * 2, none⟩) hgl).trans hc, p'.1, p'.2, p.1, p.2, h⟩
theorem Wp.wd {gg gl j i g m c g' m' c' : Nat} {tw xa ya xb yb : Int} {X : World} {G : Nat → Bool} {w : World} (h : Wp gg gl j i g m c g' m' c' tw xa ya xb yb X G w) : Wd gg gl i g m c tw X G w := h.2.2.2.2.2
theorem Wp.on {gg gl j i g m c g' m' c' : Nat} {tw xa ya xb yb : Int} {X : World} {G : Nat → Bool} {w w' : World} (h : Wp gg gl j i g m c g' m' c' tw xa ya xb yb X G w) (hgl : gl < gg) (hg : g < gg) (hg' : g' < gg) (hb : Below w.heap.size w w') : Wp gg gl j i g m c g' m' c' tw xa ya xb yb X G w' := by
  have z := h.wd.2.2.2.1
  obtain ⟨h1, h2, h3, h4, h5, h6⟩ := h
  exact ⟨(hb.cell (p := ⟨gl, j * 2, none⟩) (show gl < _ by omega)).trans h1, (hb.cell (p := ⟨g', 0, none⟩) (show g' < _ by omega)).trans h2, (hb.cell (p := ⟨g', 1, none⟩) (show g' < _ by omega)).trans h3, (hb.cell (p := ⟨g, 0, none⟩) (show g < _ by omega)).trans h4, (hb.cell (p := ⟨g, 1, none⟩) (show g < _ by omega)).trans h5, Wd.on h6 hgl hb⟩
theorem Wp.drew {gg gl j i g m c g' m' c' : Nat} {tw xa ya xb yb : Int} {X : World} {G : Nat → Bool} {w : World} (h : Wp gg gl j i g m c g' m' c' tw xa ya xb yb X G w) (hgl : gl < gg) (hg : g < gg) (hg' : g' < gg) : Wp gg gl j i g m c g' m' c' tw xa ya xb yb X G w.drew := h.on hgl hg hg' ⟨rfl, rfl, rfl, Nat.le_refl _, fun _ _ => rfl⟩
theorem before_wp {gg gl j i g m c g' m' c' : Nat} {tw xa ya xb yb : Int} {X : World} {G : Nat → Bool} {w : World} (h : Wp gg gl j i g m c g' m' c' tw xa ya xb yb X G w) (hgl : gl < gg) (hg : g < gg) (hg' : g' < gg) (hlt : ya < yb ∨ (ya = yb ∧ xa < xb)) :
    Calls Try.prog 17 #[.agg #[.int .i64 xa, .int .i64 ya], .agg #[.int .i64 xb, .int .i64 yb]] w fun e w' => e = .returned (.bool true) ∧ Wp gg gl j i g m c g' m' c' tw xa ya xb yb X G w' :=
  (before_any xa ya xb yb w).mono fun _ _ ⟨h1, h2⟩ => ⟨by rw [h1, decide_eq_true hlt], h.on hgl hg hg' (by rw [h2]; exact ((Below.refl _ _).alloc (Nat.le_refl _) _).alloc (by simp) _)⟩
/-- In its inner loop: the two points of a line, in boxes. -/
def Wq (gg gl i g m c b : Nat) (pa pb qa qb xb yb : Int) (X : World) (G : Nat → Bool) (w : World) : Prop :=
  w.cell? ⟨b, 0, none⟩ = some (.int .i64 pa) ∧ w.cell? ⟨b, 1, none⟩ = some (.int .i64 pb) ∧ w.cell? ⟨b + 1, 0, none⟩ = some (.int .i64 qa) ∧ w.cell? ⟨b + 1, 1, none⟩ = some (.int .i64 qb) ∧ w.cell? ⟨gl, i * 2, none⟩ = some (.slice (some ⟨g, 0, none⟩) m c) ∧ w.cell? ⟨g, 0, none⟩ = some (.int .i64 xb) ∧ w.cell? ⟨g, 1, none⟩ = some (.int .i64 yb) ∧ b + 1 < w.heap.size ∧ Below gg X w ∧ GoneAt gg 4356 G w
theorem Wq.on {gg gl i g m c b : Nat} {pa pb qa qb xb yb : Int} {X : World} {G : Nat → Bool} {w w' : World} (h : Wq gg gl i g m c b pa pb qa qb xb yb X G w) (hgl : gl < gg) (hg : g < gg) (hb : Below w.heap.size w w') : Wq gg gl i g m c b pa pb qa qb xb yb X G w' := by
  obtain ⟨h1, h2, h3, h4, h5, h6, h7, h8, h9, h10⟩ := h
  have z := h10.1
  have zz := hb.size
  exact ⟨(hb.cell (p := ⟨b, 0, none⟩) (show b < _ by omega)).trans h1, (hb.cell (p := ⟨b, 1, none⟩) (show b < _ by omega)).trans h2, (hb.cell (p := ⟨b + 1, 0, none⟩) (show b + 1 < _ by omega)).trans h3, (hb.cell (p := ⟨b + 1, 1, none⟩) (show b + 1 < _ by omega)).trans h4, (hb.cell (p := ⟨gl, i * 2, none⟩) (show gl < _ by omega)).trans h5, (hb.cell (p := ⟨g, 0, none⟩) (show g < _ by omega)).trans h6, (hb.cell (p := ⟨g, 1, none⟩) (show g < _ by omega)).trans h7, by omega, h9.trans (hb.mono (by omega)), h10.on hb h10.1⟩
theorem Wq.drew {gg gl i g m c b : Nat} {pa pb qa qb xb yb : Int} {X : World} {G : Nat → Bool} {w : World} (h : Wq gg gl i g m c b pa pb qa qb xb yb X G w) (hgl : gl < gg) (hg : g < gg) : Wq gg gl i g m c b pa pb qa qb xb yb X G w.drew := h.on hgl hg ⟨rfl, rfl, rfl, Nat.le_refl _, fun _ _ => rfl⟩
theorem Wq.new {gg gl i g m c : Nat} {pa pb qa qb xb yb : Int} {X : World} {G : Nat → Bool} {w : World} (hgl : gl < gg) (hg : g < gg) (t : TypeId) (h5 : w.cell? ⟨gl, i * 2, none⟩ = some (.slice (some ⟨g, 0, none⟩) m c)) (h6 : w.cell? ⟨g, 0, none⟩ = some (.int .i64 xb)) (h7 : w.cell? ⟨g, 1, none⟩ = some (.int .i64 yb)) (h9 : Below gg X w) (h10 : GoneAt gg 4356 G w) :
    Wq gg gl i g m c w.heap.size pa pb qa qb xb yb X G ((w.alloc (.cells #[.int .i64 pa, .int .i64 pb] t)).alloc (.cells #[.int .i64 qa, .int .i64 qb] t)) := by
  have z := h10.1
  have hb : Below w.heap.size w ((w.alloc (.cells #[.int .i64 pa, .int .i64 pb] t)).alloc (.cells #[.int .i64 qa, .int .i64 qb] t)) := ((Below.refl _ _).alloc (Nat.le_refl _) _).alloc (by simp) _
  exact ⟨by simp, by simp, by simp, by simp, (hb.cell (p := ⟨gl, i * 2, none⟩) (show gl < _ by omega)).trans h5, (hb.cell (p := ⟨g, 0, none⟩) (show g < _ by omega)).trans h6, (hb.cell (p := ⟨g, 1, none⟩) (show g < _ by omega)).trans h7, by simp, h9.trans (hb.mono (by omega)), h10.on hb h10.1⟩
theorem before_wq {gg gl i g m c b : Nat} {pa pb qa qb xb yb : Int} {X : World} {G : Nat → Bool} {w : World} (h : Wq gg gl i g m c b pa pb qa qb xb yb X G w) (hgl : gl < gg) (hg : g < gg) (hn : decide (pb < yb ∨ (pb = yb ∧ pa < xb)) = false) :
    Calls Try.prog 17 #[.agg #[.int .i64 pa, .int .i64 pb], .agg #[.int .i64 xb, .int .i64 yb]] w fun e w' => e = .returned (.bool false) ∧ Wq gg gl i g m c b pa pb qa qb xb yb X G w' :=
  (before_any pa pb xb yb w).mono fun _ _ ⟨h1, h2⟩ => ⟨by rw [h1, hn], h.on hgl hg (by rw [h2]; exact ((Below.refl _ _).alloc (Nat.le_refl _) _).alloc (by simp) _)⟩
theorem first_at {f : Qm.Sd → Qm.Sd} {c : Qm.Sd × Nat} (h : 0 < c.2) : (Qm.ptsOf f c).getD 0 (0, 0) = (c.1.1, c.1.2.1) := Qm.ptsOf_getD f c 0 h
end Go.Proofs.Ytgapfjjdccohkaa

/- Lines and the middles of pixels: to the right of one, above one, through one. Nothing of the program stands here. -/
namespace Go.Proofs.Ytgapfjjdccohkaa.Qm

/-- Does the line pass at the height of row y? -/
def reaB (p q : Int × Int) (y : Int) : Bool := decide (p.2 ≤ y) != decide (q.2 ≤ y)
def farZ (p q : Int × Int) (x y : Int) : Int := (2 * (p.1 - x) - 1) * (q.2 - p.2) + (2 * (y - p.2) + 1) * (q.1 - p.1)
/-- How far to the right of the middle. -/
def rtZ (p q : Int × Int) (x y : Int) : Int := if q.2 < p.2 then -farZ p q x y else farZ p q x y
/-- What a line adds to the winding number. -/
def wdZ (p q : Int × Int) (x y : Int) : Int := if reaB p q y = false ∨ rtZ p q x y ≤ 0 then 0 else if q.2 < p.2 then 1 else -1
/-- Does it go through the middle? -/
def thB (p q : Int × Int) (x y : Int) : Bool := reaB p q y && decide (rtZ p q x y = 0)

def crZ (p q : Int × Int) (x y : Int) : Int := (2 * (p.1 - x) - 1) * (2 * (q.2 - y) - 1) - (2 * (p.2 - y) - 1) * (2 * (q.1 - x) - 1)
def dtZ (p q : Int × Int) (x y : Int) : Int := (2 * (p.1 - x) - 1) * (2 * (q.1 - x) - 1) + (2 * (p.2 - y) - 1) * (2 * (q.2 - y) - 1)
/-- The same, as the document's answer asks it. -/
def thR (p q : Int × Int) (x y : Int) : Bool := decide (crZ p q x y = 0) && decide (dtZ p q x y ≤ 0)
/-- What a line adds, counted above the middle. -/
def abZ (p q : Int × Int) (x y : Int) : Int := if 2 * (p.1 - x) - 1 < 0 ∧ 0 < 2 * (q.1 - x) - 1 ∧ 0 < crZ p q x y then -1 else if 0 < 2 * (p.1 - x) - 1 ∧ 2 * (q.1 - x) - 1 < 0 ∧ crZ p q x y < 0 then 1 else 0

theorem cr_far (p q : Int × Int) (x y : Int) : crZ p q x y = 2 * farZ p q x y := by
  unfold crZ farZ; grind

/-- Signs of a product. -/
theorem sgn_mul {a b : Int} (ha : a ≠ 0) (hb : b ≠ 0) : (0 < a ∧ 0 < b ∧ 0 < a * b) ∨ (a < 0 ∧ b < 0 ∧ 0 < a * b) ∨ (0 < a ∧ b < 0 ∧ a * b < 0) ∨ (a < 0 ∧ 0 < b ∧ a * b < 0) := by
  rcases Int.lt_or_gt_of_ne ha with h | h <;> rcases Int.lt_or_gt_of_ne hb with k | k
  · exact .inr (.inl ⟨h, k, Int.mul_pos_of_neg_of_neg h k⟩)
  · exact .inr (.inr (.inr ⟨h, k, Int.mul_neg_of_neg_of_pos h k⟩))
  · exact .inr (.inr (.inl ⟨h, k, Int.mul_neg_of_pos_of_neg h k⟩))
  · exact .inl ⟨h, k, Int.mul_pos h k⟩

/-- The quadrant between the two rays. -/
def qd (x y : Int) (p : Int × Int) : Int := if x < p.1 ∧ p.2 ≤ y then 1 else 0

/-- What the four signs give. -/
theorem cr_signs (p q : Int × Int) (x y : Int) :
    ∃ A B C D : Int, crZ p q x y = A - B ∧ dtZ p q x y = C + D ∧ 2 * farZ p q x y = A - B ∧
      ((x < p.1 ∧ y < q.2 ∧ 0 < A) ∨ (p.1 ≤ x ∧ q.2 ≤ y ∧ 0 < A) ∨ (x < p.1 ∧ q.2 ≤ y ∧ A < 0) ∨ (p.1 ≤ x ∧ y < q.2 ∧ A < 0)) ∧
      ((y < p.2 ∧ x < q.1 ∧ 0 < B) ∨ (p.2 ≤ y ∧ q.1 ≤ x ∧ 0 < B) ∨ (y < p.2 ∧ q.1 ≤ x ∧ B < 0) ∨ (p.2 ≤ y ∧ x < q.1 ∧ B < 0)) ∧
      ((x < p.1 ∧ x < q.1 ∧ 0 < C) ∨ (p.1 ≤ x ∧ q.1 ≤ x ∧ 0 < C) ∨ (x < p.1 ∧ q.1 ≤ x ∧ C < 0) ∨ (p.1 ≤ x ∧ x < q.1 ∧ C < 0)) ∧
      ((y < p.2 ∧ y < q.2 ∧ 0 < D) ∨ (p.2 ≤ y ∧ q.2 ≤ y ∧ 0 < D) ∨ (y < p.2 ∧ q.2 ≤ y ∧ D < 0) ∨ (p.2 ≤ y ∧ y < q.2 ∧ D < 0)) := by
  refine ⟨_, _, _, _, rfl, rfl, (cr_far p q x y).symm, ?_, ?_, ?_, ?_⟩
  · have := sgn_mul (a := 2 * (p.1 - x) - 1) (b := 2 * (q.2 - y) - 1) (by omega) (by omega); omega
  · have := sgn_mul (a := 2 * (p.2 - y) - 1) (b := 2 * (q.1 - x) - 1) (by omega) (by omega); omega
  · have := sgn_mul (a := 2 * (p.1 - x) - 1) (b := 2 * (q.1 - x) - 1) (by omega) (by omega); omega
  · have := sgn_mul (a := 2 * (p.2 - y) - 1) (b := 2 * (q.2 - y) - 1) (by omega) (by omega); omega

theorem reaB_iff (p q : Int × Int) (y : Int) : reaB p q y = true ↔ (p.2 ≤ y ∧ y < q.2) ∨ (q.2 ≤ y ∧ y < p.2) := by
  unfold reaB
  by_cases h1 : p.2 ≤ y <;> by_cases h2 : q.2 ≤ y <;> simp [h1, h2] <;> omega
theorem thB_iff (p q : Int × Int) (x y : Int) : thB p q x y = true ↔ ((p.2 ≤ y ∧ y < q.2) ∨ (q.2 ≤ y ∧ y < p.2)) ∧ farZ p q x y = 0 := by
  unfold thB
  rw [Bool.and_eq_true, reaB_iff, decide_eq_true_eq]
  unfold rtZ
  split <;> omega
theorem thR_iff (p q : Int × Int) (x y : Int) : thR p q x y = true ↔ crZ p q x y = 0 ∧ dtZ p q x y ≤ 0 := by
  unfold thR
  rw [Bool.and_eq_true, decide_eq_true_eq, decide_eq_true_eq]
/-- Both ask the same. -/
theorem th_same (p q : Int × Int) (x y : Int) : thR p q x y = thB p q x y := by
  obtain ⟨A, B, C, D, h1, h2, h3, hA, hB, hC, hD⟩ := cr_signs p q x y
  have e : thR p q x y = true ↔ thB p q x y = true := by
    rw [thR_iff, thB_iff, h1, h2]
    omega
  cases a : thR p q x y <;> cases b : thB p q x y <;> simp_all
theorem wdZ_eq (p q : Int × Int) (x y : Int) : wdZ p q x y = if q.2 ≤ y ∧ y < p.2 ∧ farZ p q x y < 0 then 1 else if p.2 ≤ y ∧ y < q.2 ∧ 0 < farZ p q x y then -1 else 0 := by
  have r := reaB_iff p q y
  unfold wdZ
  cases hr : reaB p q y
  · rw [hr] at r
    simp at r
    rw [if_pos (.inl rfl), if_neg (by omega), if_neg (by omega)]
  · rw [hr] at r
    have r2 := r.1 rfl
    unfold rtZ
    simp only [Bool.true_eq_false, false_or]
    repeat' split <;> try omega
/-- Above and to the right differ by where the line begins and ends. -/
theorem ab_wd (p q : Int × Int) (x y : Int) (h : thB p q x y = false) : abZ p q x y - wdZ p q x y = qd x y p - qd x y q := by
  obtain ⟨A, B, C, D, h1, _, h3, hA, hB, _, _⟩ := cr_signs p q x y
  have nt : ¬ (((p.2 ≤ y ∧ y < q.2) ∨ (q.2 ≤ y ∧ y < p.2)) ∧ farZ p q x y = 0) := fun hh => by rw [(thB_iff p q x y).2 hh] at h; simp at h
  rw [wdZ_eq]
  unfold abZ qd
  rw [h1]
  repeat' split <;> try omega
end Go.Proofs.Ytgapfjjdccohkaa.Qm

/- The polygon of a cycle as the program finds it, as functions. Nothing of the program stands here. -/
namespace Go.Proofs.Ytgapfjjdccohkaa.Qm

abbrev Pt : Type := Int × Int
/-- lines, cost, span. -/
abbrev Rw : Type := Int × Int × Int

theorem wdZ_in (p q : Pt) (x y : Int) : -1 ≤ wdZ p q x y ∧ wdZ p q x y ≤ 1 := by
  unfold wdZ; split
  · omega
  · split <;> omega
/-- The winding number, line by line. -/
def wsum (l : List Pt) (x y : Int) : Nat → Int
  | 0 => 0
  | k + 1 => wsum l x y k + wdZ (pr l k) (l.getD k (0, 0)) x y
theorem wsum_in (l : List Pt) (x y : Int) (k : Nat) : -(k : Int) ≤ wsum l x y k ∧ wsum l x y k ≤ k := by
  induction k with
  | zero => simp [wsum]
  | succ k ih => have := wdZ_in (pr l k) (l.getD k (0, 0)) x y; simp only [wsum]; omega
/-- The least and the greatest of the first k. -/
def loF (g : Pt → Int) (l : List Pt) : Nat → Int
  | 0 => g (l.getD 0 (0, 0))
  | k + 1 => if g (l.getD k (0, 0)) < loF g l k then g (l.getD k (0, 0)) else loF g l k
def hiF (g : Pt → Int) (l : List Pt) : Nat → Int
  | 0 => g (l.getD 0 (0, 0))
  | k + 1 => if hiF g l k < g (l.getD k (0, 0)) then g (l.getD k (0, 0)) else hiF g l k
theorem loF_one (g : Pt → Int) (l : List Pt) : loF g l 1 = g (l.getD 0 (0, 0)) := by simp [loF]
theorem hiF_one (g : Pt → Int) (l : List Pt) : hiF g l 1 = g (l.getD 0 (0, 0)) := by simp [hiF]
theorem loF_le (g : Pt → Int) (l : List Pt) : ∀ k i, i < k → loF g l k ≤ g (l.getD i (0, 0))
  | 0, _, h => absurd h (Nat.not_lt_zero _)
  | k + 1, i, h => by
    rcases Nat.lt_or_ge i k with h1 | h1
    · have := loF_le g l k i h1
      simp only [loF]; split <;> omega
    · obtain rfl : i = k := by omega
      simp only [loF]; split <;> omega
theorem le_hiF (g : Pt → Int) (l : List Pt) : ∀ k i, i < k → g (l.getD i (0, 0)) ≤ hiF g l k
  | 0, _, h => absurd h (Nat.not_lt_zero _)
  | k + 1, i, h => by
    rcases Nat.lt_or_ge i k with h1 | h1
    · have := le_hiF g l k i h1
      simp only [hiF]; split <;> omega
    · obtain rfl : i = k := by omega
      simp only [hiF]; split <;> omega
theorem loF_at (g : Pt → Int) (l : List Pt) : ∀ k, ∃ i, (i < k ∨ i = 0) ∧ loF g l k = g (l.getD i (0, 0))
  | 0 => ⟨0, .inr rfl, rfl⟩
  | k + 1 => by
    obtain ⟨i, hi, e⟩ := loF_at g l k
    simp only [loF]
    split
    · exact ⟨k, .inl (by omega), rfl⟩
    · exact ⟨i, by omega, e⟩
theorem hiF_at (g : Pt → Int) (l : List Pt) : ∀ k, ∃ i, (i < k ∨ i = 0) ∧ hiF g l k = g (l.getD i (0, 0))
  | 0 => ⟨0, .inr rfl, rfl⟩
  | k + 1 => by
    obtain ⟨i, hi, e⟩ := hiF_at g l k
    simp only [hiF]
    split
    · exact ⟨k, .inl (by omega), rfl⟩
    · exact ⟨i, by omega, e⟩
theorem loF_in {l : List Pt} (h : Small l) (k : Nat) : (0 ≤ loF Prod.fst l k ∧ loF Prod.fst l k ≤ 32) ∧ (0 ≤ loF Prod.snd l k ∧ loF Prod.snd l k ≤ 32) := by
  obtain ⟨i, _, e⟩ := loF_at Prod.fst l k
  obtain ⟨j, _, e2⟩ := loF_at Prod.snd l k
  have a := h.at i
  have b := h.at j
  rw [e, e2]; omega
theorem hiF_in {l : List Pt} (h : Small l) (k : Nat) : (0 ≤ hiF Prod.fst l k ∧ hiF Prod.fst l k ≤ 32) ∧ (0 ≤ hiF Prod.snd l k ∧ hiF Prod.snd l k ≤ 32) := by
  obtain ⟨i, _, e⟩ := hiF_at Prod.fst l k
  obtain ⟨j, _, e2⟩ := hiF_at Prod.snd l k
  have a := h.at i
  have b := h.at j
  rw [e, e2]; omega

def fstP (l : List Pt) : Pt := l.getD 0 (0, 0)
def lstP (l : List Pt) : Pt := l.getD (l.length - 1) (0, 0)
/-- Is all well at the middle of (x, y)? -/
def okAt (l : List Pt) (x y : Int) : Bool := !thB (lstP l) (fstP l) x y && decide (wsum l x y l.length = 0)
/-- May one line stand for the points? -/
def fitB (l : List Pt) : Bool :=
  (List.range (hiF Prod.snd l l.length - loF Prod.snd l l.length).toNat).all fun j => (List.range (hiF Prod.fst l l.length - loF Prod.fst l l.length).toNat).all fun i =>
    okAt l (loF Prod.fst l l.length + (i : Nat)) (loF Prod.snd l l.length + (j : Nat))
theorem fitB_iff (l : List Pt) : fitB l = true ↔ ∀ x y, loF Prod.fst l l.length ≤ x → x < hiF Prod.fst l l.length → loF Prod.snd l l.length ≤ y → y < hiF Prod.snd l l.length → okAt l x y = true := by
  unfold fitB
  simp only [List.all_eq_true, List.mem_range]
  constructor
  · intro h x y x0 x1 y0 y1
    have := h (y - loF Prod.snd l l.length).toNat (by omega) (x - loF Prod.fst l l.length).toNat (by omega)
    rwa [show loF Prod.fst l l.length + ((x - loF Prod.fst l l.length).toNat : Int) = x from by omega, show loF Prod.snd l l.length + ((y - loF Prod.snd l l.length).toNat : Int) = y from by omega] at this
  · intro h j hj i hi
    exact h _ _ (by omega) (by omega) (by omega) (by omega)

/-- How far p is off the line from a to z, times its length. -/
def offZ (a z p : Pt) : Int := (z.1 - a.1) * (p.2 - a.2) - (z.2 - a.2) * (p.1 - a.1)
def absZ (n : Int) : Int := if n < 0 then -n else n
def costTo (a z : Pt) (l : List Pt) : Nat → Int
  | 0 => 0
  | k + 1 => costTo a z l k + absZ (offZ a z (l.getD k (0, 0)))
def costOf (l : List Pt) : Int := costTo (fstP l) (lstP l) l l.length

theorem mul_in {a b : Int} (h1 : -32 ≤ a) (h2 : a ≤ 32) (h3 : -32 ≤ b) (h4 : b ≤ 32) : -1024 ≤ a * b ∧ a * b ≤ 1024 := by
  have p : ∀ {u v : Int}, 0 ≤ u → u ≤ 32 → 0 ≤ v → v ≤ 32 → 0 ≤ u * v ∧ u * v ≤ 1024 := fun a b c d => mul_small a b c d
  rcases Int.le_total 0 a with ha | ha <;> rcases Int.le_total 0 b with hb | hb
  · have := p ha h2 hb h4; omega
  · have := p ha h2 (show 0 ≤ -b by omega) (by omega); rw [Int.mul_neg] at this; omega
  · have := p (show 0 ≤ -a by omega) (by omega) hb h4; rw [Int.neg_mul] at this; omega
  · have := p (show 0 ≤ -a by omega) (by omega) (show 0 ≤ -b by omega) (by omega); rw [Int.neg_mul_neg] at this; omega
theorem costTo_in {l : List Pt} (h : Small l) (a z : Pt) (ha : 0 ≤ a.1 ∧ a.1 ≤ 32 ∧ 0 ≤ a.2 ∧ a.2 ≤ 32) (hz : 0 ≤ z.1 ∧ z.1 ≤ 32 ∧ 0 ≤ z.2 ∧ z.2 ≤ 32) (k : Nat) : 0 ≤ costTo a z l k ∧ costTo a z l k ≤ 2048 * k := by
  induction k with
  | zero => simp [costTo]
  | succ k ih =>
    have p := h.at k
    have m1 := mul_in (a := z.1 - a.1) (b := (l.getD k (0, 0)).2 - a.2) (by omega) (by omega) (by omega) (by omega)
    have m2 := mul_in (a := z.2 - a.2) (b := (l.getD k (0, 0)).1 - a.1) (by omega) (by omega) (by omega) (by omega)
    simp only [costTo]
    unfold absZ offZ
    split <;> omega
theorem Small.take {l : List Pt} (h : Small l) (n : Nat) : Small (l.take n) := fun p hp => h p (List.mem_of_mem_take hp)
theorem Small.drop {l : List Pt} (h : Small l) (n : Nat) : Small (l.drop n) := fun p hp => h p (List.mem_of_mem_drop hp)
theorem costOf_in {l : List Pt} (h : Small l) : 0 ≤ costOf l ∧ costOf l ≤ 2048 * l.length := costTo_in h _ _ (h.at _) (h.at _) _

/-- Is a better than b? -/
def betB (a b : Rw) : Bool := decide (a.1 < b.1 ∨ (a.1 = b.1 ∧ a.2.1 < b.2.1))
/-- The best of the rows whose first line stands for up to k sides. -/
def accR (l : List Pt) (B : List Rw) : Nat → Rw
  | 0 => (0, 0, 0)
  | k + 1 =>
    let r := B.getD (B.length - (k + 1)) (0, 0, 0)
    let r' : Rw := (r.1 + 1, r.2.1 + costOf (l.take (k + 2)), (k : Int) + 1)
    if fitB (l.take (k + 2)) && (decide (k = 0) || betB r' (accR l B k)) then r' else accR l B k
/-- How many spans are tried. -/
def spn (n b : Nat) : Nat := min 12 (min (n - 1) b)
/-- The rows from the last m points on, the one from the last point first. -/
def rowsTo (v : List Pt) : Nat → List Rw
  | 0 => []
  | m + 1 => rowsTo v m ++ [accR (v.drop (v.length - 1 - m)) (rowsTo v m) (spn (m + 1) m)]
theorem rowsTo_len (v : List Pt) (m : Nat) : (rowsTo v m).length = m := by
  induction m with
  | zero => rfl
  | succ m ih => simp [rowsTo, ih]
/-- The numbers of the corners ahead of k, and the next one. -/
def cornTo (B : List Rw) : Nat → List Nat × Int
  | 0 => ([], 0)
  | k + 1 => if (k : Int) = (cornTo B k).2 then ((cornTo B k).1 ++ [k], (k : Int) + (B.getD (B.length - 1 - k) (0, 0, 0)).2.2) else cornTo B k
/-- The corners of a cycle. -/
def cornN (c : List Pt) : List Nat := (cornTo (rowsTo (c ++ [fstP c]) (c.length + 1)) c.length).1
def cornL (c : List Pt) : List Pt := (cornN c).map fun i => c.getD i (0, 0)
end Go.Proofs.Ytgapfjjdccohkaa.Qm

/- Package shape: reaches, toTheRight, windingOf, GoesThrough. -/
namespace Go.Proofs.Ytgapfjjdccohkaa
open Go.RowKit

/-- A point of a bitmap; a pixel in its reach. -/
def PtIn (p : Int × Int) : Prop := 0 ≤ p.1 ∧ p.1 ≤ 32 ∧ 0 ≤ p.2 ∧ p.2 ≤ 32
def two (w : World) (p q : Int × Int) : World := (w.alloc (.cells #[.int .i64 p.1, .int .i64 p.2] 47)).alloc (.cells #[.int .i64 q.1, .int .i64 q.2] 47)
theorem two_below (w : World) (p q : Int × Int) : Below w.heap.size w (two w p q) := ((Below.refl _ _).alloc (Nat.le_refl _) _).alloc (by simp) _

set_option maxHeartbeats 400000 in
theorem reaches_any (p q : Int × Int) (y : Int) (w : World) :
    Calls Try.prog 93 #[.agg #[.int .i64 p.1, .int .i64 p.2], .agg #[.int .i64 q.1, .int .i64 q.2], .int .i64 y] w fun e w' => e = .returned (.bool (Qm.reaB p q y)) ∧ Below w.heap.size w w' := by
  obtain ⟨px, py⟩ := p
  obtain ⟨qx, qy⟩ := q
  dsimp only
  cases hd1 : decide (py ≤ y) <;> cases hd2 : decide (qy ≤ y)
  all_goals (
    have D1 := hid hd1
    have D2 := hid hd2
    go_enter Try.func93, Try.ntmps93
    go_wp2
    go_ret
    exact ⟨ret_bool (by unfold Qm.reaB; rw [D1.out, D2.out]; rfl), by go_grown⟩)

theorem far_in {p q : Int × Int} {x y : Int} (hp : PtIn p) (hq : PtIn q) (x0 : -32 ≤ x) (x1 : x ≤ 64) (y0 : -32 ≤ y) (y1 : y ≤ 64) : (-20000 ≤ (2 * (p.1 - x) - 1) * (q.2 - p.2) ∧ (2 * (p.1 - x) - 1) * (q.2 - p.2) ≤ 20000) ∧ (-20000 ≤ (2 * (y - p.2) + 1) * (q.1 - p.1) ∧ (2 * (y - p.2) + 1) * (q.1 - p.1) ≤ 20000) := by
  unfold PtIn at hp hq
  have m : ∀ {a b : Int}, -200 ≤ a → a ≤ 200 → -32 ≤ b → b ≤ 32 → -20000 ≤ a * b ∧ a * b ≤ 20000 := by
    intro a b a0 a1 b0 b1
    have p : ∀ {u v : Int}, 0 ≤ u → u ≤ 200 → 0 ≤ v → v ≤ 32 → 0 ≤ u * v ∧ u * v ≤ 6400 := fun a b c d => ⟨Int.mul_nonneg a c, Int.mul_le_mul b d c (by omega)⟩
    rcases Int.le_total 0 a with ha | ha <;> rcases Int.le_total 0 b with hb | hb
    · have := p ha a1 hb b1; omega
    · have := p ha a1 (show 0 ≤ -b by omega) (by omega); rw [Int.mul_neg] at this; omega
    · have := p (show 0 ≤ -a by omega) (by omega) hb b1; rw [Int.neg_mul] at this; omega
    · have := p (show 0 ≤ -a by omega) (by omega) (show 0 ≤ -b by omega) (by omega); rw [Int.neg_mul_neg] at this; omega
  exact ⟨m (by omega) (by omega) (by omega) (by omega), m (by omega) (by omega) (by omega) (by omega)⟩

set_option maxHeartbeats 1000000 in
theorem right_any (p q : Int × Int) (x y : Int) (hp : PtIn p) (hq : PtIn q) (x0 : -32 ≤ x) (x1 : x ≤ 64) (y0 : -32 ≤ y) (y1 : y ≤ 64) (w : World) :
    Calls Try.prog 94 #[.agg #[.int .i64 p.1, .int .i64 p.2], .agg #[.int .i64 q.1, .int .i64 q.2], .int .i64 x, .int .i64 y] w fun e w' => e = .returned (.int .i64 (Qm.rtZ p q x y)) ∧ Below w.heap.size w w' := by
  have F := far_in hp hq x0 x1 y0 y1
  have E := hid (show Qm.rtZ p q x y = if q.2 < p.2 then -((2 * (p.1 - x) - 1) * (q.2 - p.2) + (2 * (y - p.2) + 1) * (q.1 - p.1)) else (2 * (p.1 - x) - 1) * (q.2 - p.2) + (2 * (y - p.2) + 1) * (q.1 - p.1) from rfl)
  unfold PtIn at hp hq
  obtain ⟨px, py⟩ := p
  obtain ⟨qx, qy⟩ := q
  dsimp only at hp hq F E ⊢
  obtain ⟨u, hu⟩ : ∃ u, (2 * (px - x) - 1) * (qy - py) = u := ⟨_, rfl⟩
  obtain ⟨v, hv⟩ : ∃ v, (2 * (y - py) + 1) * (qx - px) = v := ⟨_, rfl⟩
  rw [hu, hv] at F E
  by_cases h : qy < py
  · rw [if_pos h] at E
    go_enter Try.func94, Try.ntmps94
    go_wp2
    go_ret
    exact ⟨ret_int (by rw [E.out]), by go_grown⟩
  · rw [if_neg h] at E
    go_enter Try.func94, Try.ntmps94
    go_wp2
    go_ret
    exact ⟨ret_int (by rw [E.out]), by go_grown⟩

set_option maxHeartbeats 1000000 in
theorem windingOf_any (p q : Int × Int) (x y : Int) (hp : PtIn p) (hq : PtIn q) (x0 : -32 ≤ x) (x1 : x ≤ 64) (y0 : -32 ≤ y) (y1 : y ≤ 64) (w : World) :
    Calls Try.prog 95 #[.agg #[.int .i64 p.1, .int .i64 p.2], .agg #[.int .i64 q.1, .int .i64 q.2], .int .i64 x, .int .i64 y] w fun e w' => e = .returned (.int .i64 (Qm.wdZ p q x y)) ∧ Below w.heap.size w w' := by
  have RE := hid (fun W' => reaches_any p q y W')
  have RI := hid (fun W' => right_any p q x y hp hq x0 x1 y0 y1 W')
  have E := hid (show Qm.wdZ p q x y = if Qm.reaB p q y = false ∨ Qm.rtZ p q x y ≤ 0 then 0 else if q.2 < p.2 then 1 else -1 from rfl)
  obtain ⟨px, py⟩ := p
  obtain ⟨qx, qy⟩ := q
  dsimp only at RE RI E ⊢
  obtain ⟨r, hr⟩ : ∃ r, Qm.reaB (px, py) (qx, qy) y = r := ⟨_, rfl⟩
  obtain ⟨z, hz⟩ : ∃ z, Qm.rtZ (px, py) (qx, qy) x y = z := ⟨_, rfl⟩
  rw [hr, hz] at E
  rw [hr] at RE
  rw [hz] at RI
  clear hr hz
  go_enter Try.func95, Try.ntmps95
  go_wp2_with fail
  refine (RE.out _).mono ?_
  rintro e w1 ⟨rfl, hb⟩
  have B1 := hid (show Below w.heap.size w w1 from Below.trans (b := _) (by go_grown) (hb.mono (by simp; omega)))
  have z1 := hb.size
  simp at z1
  obtain ⟨hc, hf⟩ := bcell hb
  clear hb
  cases r
  · go_wp2
    go_ret
    exact ⟨ret_int (by rw [E.out, if_pos (by simp)]), B1.out⟩
  · go_wp2_with fail
    refine (RI.out _).mono ?_
    rintro e w2 ⟨rfl, hb⟩
    have B2 := hid (show Below w.heap.size w w2 from B1.out.trans (hb.mono (by omega)))
    have hc2 := (bcell hb).1
    have q0 := (hc2 (w.heap.size + 1) 1 (by omega)).trans (hc (w.heap.size + 1) 1 (by simp))
    have q1 := (hc2 w.heap.size 1 (by omega)).trans (hc w.heap.size 1 (by simp; omega))
    simp at q0 q1
    clear hb hc hf hc2
    by_cases hz : z ≤ 0
    · have dz : decide (z ≤ 0) = true := by simpa using hz
      go_wp2
      go_ret
      exact ⟨ret_int (by rw [E.out, if_pos (.inr hz)]), B2.out⟩
    · have dz : decide (z ≤ 0) = false := by simpa using hz
      rw [if_neg (by simp; omega)] at E
      by_cases hy : qy < py
      · rw [if_pos hy] at E
        go_wp2
        go_ret
        exact ⟨ret_int E.out.symm, B2.out⟩
      · rw [if_neg hy] at E
        go_wp2
        go_ret
        exact ⟨ret_int E.out.symm, B2.out⟩

set_option maxHeartbeats 1000000 in
theorem through_any (p q : Int × Int) (x y : Int) (hp : PtIn p) (hq : PtIn q) (x0 : -32 ≤ x) (x1 : x ≤ 64) (y0 : -32 ≤ y) (y1 : y ≤ 64) (w : World) :
    Calls Try.prog 91 #[.agg #[.int .i64 p.1, .int .i64 p.2], .agg #[.int .i64 q.1, .int .i64 q.2], .int .i64 x, .int .i64 y] w fun e w' => e = .returned (.bool (Qm.thB p q x y)) ∧ Below w.heap.size w w' := by
  have RE := hid (fun W' => reaches_any p q y W')
  have RI := hid (fun W' => right_any p q x y hp hq x0 x1 y0 y1 W')
  have E := hid (show Qm.thB p q x y = (Qm.reaB p q y && decide (Qm.rtZ p q x y = 0)) from rfl)
  obtain ⟨px, py⟩ := p
  obtain ⟨qx, qy⟩ := q
  dsimp only at RE RI E ⊢
  obtain ⟨r, hr⟩ : ∃ r, Qm.reaB (px, py) (qx, qy) y = r := ⟨_, rfl⟩
  obtain ⟨z, hz⟩ : ∃ z, Qm.rtZ (px, py) (qx, qy) x y = z := ⟨_, rfl⟩
  rw [hr, hz] at E
  rw [hr] at RE
  rw [hz] at RI
  clear hr hz
  go_enter Try.func91, Try.ntmps91
  go_wp2_with fail
  refine (RE.out _).mono ?_
  rintro e w1 ⟨rfl, hb⟩
  have B1 := hid (show Below w.heap.size w w1 from Below.trans (b := _) (by go_grown) (hb.mono (by simp; omega)))
  have z1 := hb.size
  simp at z1
  obtain ⟨hc, hf⟩ := bcell hb
  clear hb
  cases r
  · go_wp2
    go_ret
    exact ⟨ret_bool (by rw [E.out]; rfl), B1.out⟩
  · go_wp2_with fail
    refine (RI.out _).mono ?_
    rintro e w2 ⟨rfl, hb⟩
    have B2 := hid (show Below w.heap.size w w2 from B1.out.trans (hb.mono (by omega)))
    clear hb hc hf
    by_cases hz : z = 0
    · subst hz
      go_wp2
      go_ret
      exact ⟨ret_bool (by rw [E.out]; rfl), B2.out⟩
    · have dz : (z == 0) = false := by simpa using hz
      rw [show decide (z = 0) = false by simpa using hz] at E
      go_wp2
      go_ret
      exact ⟨ret_bool (by rw [E.out]; rfl), B2.out⟩
end Go.Proofs.Ytgapfjjdccohkaa
