/- outlinekeep: what Walked asks first: options and Cycles beside a bitmap that lies in a box. -/
import Derived.Test.YtljfiefobnncaaaFg
import Derived.Test.YtljfiefobnncaaaFh
import Derived.Test.YtljfiefobnncaaaSc
namespace Go.Proofs.Ytljfiefobnncaaa
open Go.RowKit

theorem RawIs.on {ao : Option Addr} {len : Nat} {w w' : World} (h : RawIs ao len w) (hb : Below w.heap.size w w') : RawIs ao len w' := by
  rcases h with h | ⟨b, off, e, hlt, hc⟩
  · exact .inl h
  · refine .inr ⟨b, off, e, Nat.lt_of_lt_of_le hlt hb.size, fun j hj => ?_⟩
    obtain ⟨z, hz⟩ := hc j hj
    exact ⟨z, (hb.cell (p := ⟨b, off + j, none⟩) hlt).trans hz⟩
theorem inb_new (w : World) (W H : Nat) (s : ByteArray) (t : TypeId) : Inb w.heap.size W H s w (w.alloc (.cells #[.int .i64 W, .int .i64 H, .string s] t)).drew :=
  ⟨by simp [go_sem], by simp [go_sem], by simp [go_sem], ((Below.refl _ _).alloc (Nat.le_refl _) _).trans ⟨rfl, rfl, rfl, Nat.le_refl _, fun _ _ => rfl⟩, by simp [go_sem]⟩
theorem Inb.bmp {B W H : Nat} {s : ByteArray} {w wr : World} (h : Inb B W H s w wr) : Bmp B W H s wr := ⟨h.2.2.2.2, h.1, h.2.1, h.2.2.1⟩
theorem options_inb {B W H : Nat} {s : ByteArray} {w wx : World} (hI : Inb B W H s w wx) (p : Int) (draws : ByteArray) (p1 : -9223372036854775808 ≤ p) (p2 : p ≤ 9223372036854775807) :
    Calls Try.prog 16 #[.int .i64 p, .string draws] wx fun e w' => (∃ r : Nat, e = .returned (.agg #[.int .i64 r, .string draws, .int .i64 0]) ∧ r ≤ 3) ∧ Inb B W H s w w' :=
  (options_any p draws p1 p2 wx).mono fun _ _ ⟨h, hb⟩ => ⟨h, hI.on hb⟩
theorem cycles_inb {B W H : Nat} {s : ByteArray} {w wx : World} (hI : Inb B W H s w wx) (pol : Nat) (draws : ByteArray) (spk : Int) (hm : mayB W H s.data.toList pol spk = true) (hw2 : W ≤ 32) (hh2 : H ≤ 32) (hl : s.size = W * H) (hp : pol ≤ 3) :
    Calls Try.prog 15 #[.agg #[.int .i64 W, .int .i64 H, .string s], .agg #[.int .i64 pol, .string draws, .int .i64 spk]] wx fun e w' => ∃ vl, e = .returned (.tuple #[vl, .int .i64 0]) ∧ (∃ L, Qm.Res (fB W H s pol draws) (bB W H s) Qm.key (L.map (·.2)) ∧ Rowed (fB W H s pol draws) (B + 1) vl L w' ∧ L.length ≤ 1200) ∧ Inb B W H s w w' :=
  (cycles_yes W H s pol draws spk wx hm hw2 hh2 hl hp).mono fun _ _ ⟨vl, e, L, h1, h2, h3, h4⟩ => ⟨vl, e, ⟨L, h1, ⟨h2.row.mono hI.2.2.2.2, fun p hp => (h2.pts p hp).mono hI.2.2.2.2, h2.apart⟩, h4⟩, hI.on h3⟩
theorem good_of {W H : Nat} {l : List UInt8} (h1 : 1 ≤ W) (h2 : W ≤ 32) (h3 : 1 ≤ H) (h4 : H ≤ 32) (hl : l.length = W * H) (ha : l.all Pm.okPix = true) : Pm.goodB W H l = true :=
  Pm.goodB_yes (by simp [Pm.sideB]; omega) (by simp [Pm.sideB]; omega) (by rw [hl]; simp) ha
theorem may_of {W H : Nat} {l : List UInt8} {pol spk : Int} (h : Pm.goodB W H l = true) (p0 : 0 ≤ pol) (p3 : pol ≤ 3) (s0 : 0 ≤ spk) (s1 : spk ≤ 1024) : mayB W H l pol spk = true := by
  rw [mayB_good ⟨p0, p3⟩ ⟨s0, s1⟩]; exact h

/-- In Walked's loop: the shape number i stands where it stood, the marks are G. -/
def Wd (gg gl i g m c : Nat) (tw : Int) (X : World) (G : Nat → Bool) (w : World) : Prop :=
  w.cell? ⟨gl, i * 2, none⟩ = some (.slice (some ⟨g, 0, none⟩) m c) ∧ w.cell? ⟨gl, i * 2 + 1, none⟩ = some (.int .i64 tw) ∧ Below gg X w ∧ GoneAt gg 4356 G w
theorem Wd.on {gg gl i g m c : Nat} {tw : Int} {X : World} {G : Nat → Bool} {w w' : World} (h : Wd gg gl i g m c tw X G w) (hg : gl < gg) (hb : Below w.heap.size w w') : Wd gg gl i g m c tw X G w' := by
  obtain ⟨h1, h2, h3, h4⟩ := h
  have := h4.1
  exact ⟨(hb.cell (p := ⟨gl, i * 2, none⟩) (show gl < _ by omega)).trans h1, (hb.cell (p := ⟨gl, i * 2 + 1, none⟩) (show gl < _ by omega)).trans h2, h3.trans (hb.mono (by omega)), h4.on hb h4.1⟩
theorem Wd.drew {gg gl i g m c : Nat} {tw : Int} {X : World} {G : Nat → Bool} {w : World} (h : Wd gg gl i g m c tw X G w) (hg : gl < gg) : Wd gg gl i g m c tw X G w.drew :=
  h.on hg ⟨rfl, rfl, rfl, Nat.le_refl _, fun _ _ => rfl⟩
theorem twice_wd {gg gl i g m c : Nat} {X : World} {G : Nat → Bool} {w : World} (l : List (Int × Int)) (h : Wd gg gl i g m c (Qm.twiceOf l) X G w) (hg : gl < gg) (hn : m = l.length) (h0 : 0 < m) (hs : Qm.Small l) (hn2 : m ≤ 4356) (hP : PtsAt g l X) (hgg : gg = X.heap.size) :
    Calls Try.prog 17 #[.agg #[.slice (some ⟨g, 0, none⟩) m c, .int .i64 (Qm.twiceOf l)]] w fun e w' => e = .returned (.int .i64 (Qm.twiceOf l)) ∧ Wd gg gl i g m c (Qm.twiceOf l) X G w' :=
  (keepTwice_any g m c _ l hn h0 hs hn2 w (hP.on h.2.2.1 (by rw [hgg]; exact hP.1))).mono fun _ _ ⟨h1, h2⟩ => ⟨h1, h.on hg h2⟩
/-- What stands at the shape number i. -/
theorem Shown.at {f : Qm.Sd → Qm.Sd} {al : Option Addr} {cl n : Nat} {L : List (Value × (Qm.Sd × Nat))} {X : World} (h : Shown f (.slice al n cl) L X) {R : List (Qm.Sd × Nat)} (hR : R = L.map (·.2)) {gl : Nat} (hc : ∀ j u, (shpV f L)[j]? = some u → X.cell? ⟨gl, j, none⟩ = some u) {i : Nat} (hi : i < R.length) :
    ∃ g c, 0 < R[i].2 ∧ PtsAt g (Qm.ptsOf f R[i]) X ∧ X.cell? ⟨gl, i * 2, none⟩ = some (.slice (some ⟨g, 0, none⟩) R[i].2 c) ∧ X.cell? ⟨gl, i * 2 + 1, none⟩ = some (.int .i64 (Qm.twiceOf (Qm.ptsOf f R[i]))) := by
  subst hR
  have hi' : i < L.length := by simpa using hi
  obtain ⟨g, c, e, h0, hp⟩ := h.pts L[i] (List.getElem_mem hi')
  have s := shpV_at f L i hi'
  rw [e] at s
  refine ⟨g, c, ?_⟩
  simp only [List.getElem_map]
  exact ⟨h0, hp, hc _ _ s.1, hc _ _ s.2⟩

/-- .. and beside it the shape ahead of it, and both first points. -/
def Wp (gg gl j i g m c g' m' c' : Nat) (tw xa ya xb yb : Int) (X : World) (G : Nat → Bool) (w : World) : Prop :=
  w.cell? ⟨gl, j * 2, none⟩ = some (.slice (some ⟨g', 0, none⟩) m' c') ∧ w.cell? ⟨g', 0, none⟩ = some (.int .i64 xa) ∧ w.cell? ⟨g', 1, none⟩ = some (.int .i64 ya) ∧ w.cell? ⟨g, 0, none⟩ = some (.int .i64 xb) ∧ w.cell? ⟨g, 1, none⟩ = some (.int .i64 yb) ∧ w.cell? ⟨gl, i * 2, none⟩ = some (.slice (some ⟨g, 0, none⟩) m c) ∧ w.cell? ⟨gl, i * 2 + 1, none⟩ = some (.int .i64 tw) ∧ Below gg X w ∧ GoneAt gg 4356 G w
theorem Wp.mk' {gg gl j i g m c g' m' c' : Nat} {tw : Int} {X : World} {G : Nat → Bool} {w : World} {l l' : List (Int × Int)} (h : Wd gg gl i g m c tw X G w) (hgl : gl < gg) (hX : gg = X.heap.size) (hc : X.cell? ⟨gl, j * 2, none⟩ = some (.slice (some ⟨g', 0, none⟩) m' c')) (hl : PtsAt g l X) (hl' : PtsAt g' l' X) (h0 : 0 < l.length) (h0' : 0 < l'.length) :
    Wp gg gl j i g m c g' m' c' tw (l'.getD 0 (0, 0)).1 (l'.getD 0 (0, 0)).2 (l.getD 0 (0, 0)).1 (l.getD 0 (0, 0)).2 X G w := by
  have b := h.2.2.1
  have z := hl.1
  have z' := hl'.1
  have p := (hl.on b (by omega)).2 0 h0
  have p' := (hl'.on b (by omega)).2 0 h0'
  exact ⟨(b.cell (p := ⟨gl, j * 2, none⟩) hgl).trans hc, p'.1, p'.2, p.1, p.2, h⟩
theorem Wp.wd {gg gl j i g m c g' m' c' : Nat} {tw xa ya xb yb : Int} {X : World} {G : Nat → Bool} {w : World} (h : Wp gg gl j i g m c g' m' c' tw xa ya xb yb X G w) : Wd gg gl i g m c tw X G w := h.2.2.2.2.2
theorem Wp.on {gg gl j i g m c g' m' c' : Nat} {tw xa ya xb yb : Int} {X : World} {G : Nat → Bool} {w w' : World} (h : Wp gg gl j i g m c g' m' c' tw xa ya xb yb X G w) (hgl : gl < gg) (hg : g < gg) (hg' : g' < gg) (hb : Below w.heap.size w w') : Wp gg gl j i g m c g' m' c' tw xa ya xb yb X G w' := by
  have z := h.wd.2.2.2.1
  obtain ⟨h1, h2, h3, h4, h5, h6⟩ := h
  exact ⟨(hb.cell (p := ⟨gl, j * 2, none⟩) (show gl < _ by omega)).trans h1, (hb.cell (p := ⟨g', 0, none⟩) (show g' < _ by omega)).trans h2, (hb.cell (p := ⟨g', 1, none⟩) (show g' < _ by omega)).trans h3, (hb.cell (p := ⟨g, 0, none⟩) (show g < _ by omega)).trans h4, (hb.cell (p := ⟨g, 1, none⟩) (show g < _ by omega)).trans h5, Wd.on h6 hgl hb⟩
theorem Wp.drew {gg gl j i g m c g' m' c' : Nat} {tw xa ya xb yb : Int} {X : World} {G : Nat → Bool} {w : World} (h : Wp gg gl j i g m c g' m' c' tw xa ya xb yb X G w) (hgl : gl < gg) (hg : g < gg) (hg' : g' < gg) : Wp gg gl j i g m c g' m' c' tw xa ya xb yb X G w.drew := h.on hgl hg hg' ⟨rfl, rfl, rfl, Nat.le_refl _, fun _ _ => rfl⟩
theorem before_wp {gg gl j i g m c g' m' c' : Nat} {tw xa ya xb yb : Int} {X : World} {G : Nat → Bool} {w : World} (h : Wp gg gl j i g m c g' m' c' tw xa ya xb yb X G w) (hgl : gl < gg) (hg : g < gg) (hg' : g' < gg) (hlt : ya < yb ∨ (ya = yb ∧ xa < xb)) :
    Calls Try.prog 18 #[.agg #[.int .i64 xa, .int .i64 ya], .agg #[.int .i64 xb, .int .i64 yb]] w fun e w' => e = .returned (.bool true) ∧ Wp gg gl j i g m c g' m' c' tw xa ya xb yb X G w' :=
  (before_any xa ya xb yb w).mono fun _ _ ⟨h1, h2⟩ => ⟨by rw [h1, decide_eq_true hlt], h.on hgl hg hg' (by rw [h2]; exact ((Below.refl _ _).alloc (Nat.le_refl _) _).alloc (by simp) _)⟩
/-- In its inner loop: the two points of a line, in boxes. -/
def Wq (gg gl i g m c b : Nat) (pa pb qa qb xb yb : Int) (X : World) (G : Nat → Bool) (w : World) : Prop :=
  w.cell? ⟨b, 0, none⟩ = some (.int .i64 pa) ∧ w.cell? ⟨b, 1, none⟩ = some (.int .i64 pb) ∧ w.cell? ⟨b + 1, 0, none⟩ = some (.int .i64 qa) ∧ w.cell? ⟨b + 1, 1, none⟩ = some (.int .i64 qb) ∧ w.cell? ⟨gl, i * 2, none⟩ = some (.slice (some ⟨g, 0, none⟩) m c) ∧ w.cell? ⟨g, 0, none⟩ = some (.int .i64 xb) ∧ w.cell? ⟨g, 1, none⟩ = some (.int .i64 yb) ∧ b + 1 < w.heap.size ∧ Below gg X w ∧ GoneAt gg 4356 G w
theorem Wq.on {gg gl i g m c b : Nat} {pa pb qa qb xb yb : Int} {X : World} {G : Nat → Bool} {w w' : World} (h : Wq gg gl i g m c b pa pb qa qb xb yb X G w) (hgl : gl < gg) (hg : g < gg) (hb : Below w.heap.size w w') : Wq gg gl i g m c b pa pb qa qb xb yb X G w' := by
  obtain ⟨h1, h2, h3, h4, h5, h6, h7, h8, h9, h10⟩ := h
  have z := h10.1
  have zz := hb.size
  exact ⟨(hb.cell (p := ⟨b, 0, none⟩) (show b < _ by omega)).trans h1, (hb.cell (p := ⟨b, 1, none⟩) (show b < _ by omega)).trans h2, (hb.cell (p := ⟨b + 1, 0, none⟩) (show b + 1 < _ by omega)).trans h3, (hb.cell (p := ⟨b + 1, 1, none⟩) (show b + 1 < _ by omega)).trans h4, (hb.cell (p := ⟨gl, i * 2, none⟩) (show gl < _ by omega)).trans h5, (hb.cell (p := ⟨g, 0, none⟩) (show g < _ by omega)).trans h6, (hb.cell (p := ⟨g, 1, none⟩) (show g < _ by omega)).trans h7, by omega, h9.trans (hb.mono (by omega)), h10.on hb h10.1⟩
theorem Wq.drew {gg gl i g m c b : Nat} {pa pb qa qb xb yb : Int} {X : World} {G : Nat → Bool} {w : World} (h : Wq gg gl i g m c b pa pb qa qb xb yb X G w) (hgl : gl < gg) (hg : g < gg) : Wq gg gl i g m c b pa pb qa qb xb yb X G w.drew := h.on hgl hg ⟨rfl, rfl, rfl, Nat.le_refl _, fun _ _ => rfl⟩
theorem Wq.new {gg gl i g m c : Nat} {pa pb qa qb xb yb : Int} {X : World} {G : Nat → Bool} {w : World} (hgl : gl < gg) (hg : g < gg) (t : TypeId) (h5 : w.cell? ⟨gl, i * 2, none⟩ = some (.slice (some ⟨g, 0, none⟩) m c)) (h6 : w.cell? ⟨g, 0, none⟩ = some (.int .i64 xb)) (h7 : w.cell? ⟨g, 1, none⟩ = some (.int .i64 yb)) (h9 : Below gg X w) (h10 : GoneAt gg 4356 G w) :
    Wq gg gl i g m c w.heap.size pa pb qa qb xb yb X G ((w.alloc (.cells #[.int .i64 pa, .int .i64 pb] t)).alloc (.cells #[.int .i64 qa, .int .i64 qb] t)) := by
  have z := h10.1
  have hb : Below w.heap.size w ((w.alloc (.cells #[.int .i64 pa, .int .i64 pb] t)).alloc (.cells #[.int .i64 qa, .int .i64 qb] t)) := ((Below.refl _ _).alloc (Nat.le_refl _) _).alloc (by simp) _
  exact ⟨by simp, by simp, by simp, by simp, (hb.cell (p := ⟨gl, i * 2, none⟩) (show gl < _ by omega)).trans h5, (hb.cell (p := ⟨g, 0, none⟩) (show g < _ by omega)).trans h6, (hb.cell (p := ⟨g, 1, none⟩) (show g < _ by omega)).trans h7, by simp, h9.trans (hb.mono (by omega)), h10.on hb h10.1⟩
theorem before_wq {gg gl i g m c b : Nat} {pa pb qa qb xb yb : Int} {X : World} {G : Nat → Bool} {w : World} (h : Wq gg gl i g m c b pa pb qa qb xb yb X G w) (hgl : gl < gg) (hg : g < gg) (hn : decide (pb < yb ∨ (pb = yb ∧ pa < xb)) = false) :
    Calls Try.prog 18 #[.agg #[.int .i64 pa, .int .i64 pb], .agg #[.int .i64 xb, .int .i64 yb]] w fun e w' => e = .returned (.bool false) ∧ Wq gg gl i g m c b pa pb qa qb xb yb X G w' :=
  (before_any pa pb xb yb w).mono fun _ _ ⟨h1, h2⟩ => ⟨by rw [h1, hn], h.on hgl hg (by rw [h2]; exact ((Below.refl _ _).alloc (Nat.le_refl _) _).alloc (by simp) _)⟩
theorem first_at {f : Qm.Sd → Qm.Sd} {c : Qm.Sd × Nat} (h : 0 < c.2) : (Qm.ptsOf f c).getD 0 (0, 0) = (c.1.1, c.1.2.1) := Qm.ptsOf_getD f c 0 h
end Go.Proofs.Ytljfiefobnncaaa
