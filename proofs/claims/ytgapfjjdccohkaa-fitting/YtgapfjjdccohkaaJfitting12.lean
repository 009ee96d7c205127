import Derived.Test.YtgapfjjdccohkaaJfitting10
import Derived.Test.YtgapfjjdccohkaaJfitting11
import Derived.Test.YtgapfjjdccohkaaJfitting02
import Derived.Test.YtgapfjjdccohkaaJfitting09
import Derived.Test.YtgapfjjdccohkaaJfitting01

/- outlinekeep: what Walked asks first: options and Cycles beside a bitmap that lies in a box. -/
namespace Go.Proofs.Ytgapfjjdccohkaa
open Go.RowKit

theorem RawIs.on {ao : Option Addr} {len : Nat} {w w' : World} (h : RawIs ao len w) (hb : Below w.heap.size w w') : RawIs ao len w' := by
  rcases h with h | ⟨b, off, e, hlt, hc⟩
  · exact .inl h
  · refine .inr ⟨b, off, e, Nat.lt_of_lt_of_le hlt hb.size, fun j hj => ?_⟩
    obtain ⟨z, hz⟩ := hc j hj
    exact ⟨z, (hb.cell (p := ⟨b, off + j, none⟩) hlt).trans hz⟩
theorem inb_new (w : World) (W H : Nat) (s : ByteArray) (t : TypeId) : Inb w.heap.size W H s w (w.alloc (.cells #[.int .i64 W, .int .i64 H, .string s] t)).drew :=
  ⟨by simp [go_sem], by simp [go_sem], by simp [go_sem], ((Below.refl _ _).alloc (Nat.le_refl _) _).trans ⟨rfl, rfl, rfl, Nat.le_refl _, fun _ _ => rfl⟩, by simp [go_sem]⟩
theorem Inb.bmp {B W H : Nat} {s : ByteArray} {w wr : World} (h : Inb B W H s w wr) : Bmp B W H s wr := ⟨h.2.2.2.2, h.1, h.2.1, h.2.2.1⟩
theorem options_inb {B W H : Nat} {s : ByteArray} {w wx : World} (hI : Inb B W H s w wx) (p : Int) (draws : ByteArray) (p1 : -9223372036854775808 ≤ p) (p2 : p ≤ 9223372036854775807) :
    Calls Try.prog 15 #[.int .i64 p, .string draws] wx fun e w' => (∃ r : Nat, e = .returned (.agg #[.int .i64 r, .string draws, .int .i64 0]) ∧ r ≤ 3) ∧ Inb B W H s w w' :=
  (options_any p draws p1 p2 wx).mono fun _ _ ⟨h, hb⟩ => ⟨h, hI.on hb⟩
theorem cycles_inb {B W H : Nat} {s : ByteArray} {w wx : World} (hI : Inb B W H s w wx) (pol : Nat) (draws : ByteArray) (spk : Int) (hm : mayB W H s.data.toList pol spk = true) (hw2 : W ≤ 32) (hh2 : H ≤ 32) (hl : s.size = W * H) (hp : pol ≤ 3) :
    Calls Try.prog 14 #[.agg #[.int .i64 W, .int .i64 H, .string s], .agg #[.int .i64 pol, .string draws, .int .i64 spk]] wx fun e w' => ∃ vl, e = .returned (.tuple #[vl, .int .i64 0]) ∧ (∃ L, Qm.Res (fB W H s pol draws) (bB W H s) Qm.key (L.map (·.2)) ∧ Rowed (fB W H s pol draws) (B + 1) vl L w' ∧ L.length ≤ 1200) ∧ Inb B W H s w w' :=
  (cycles_yes W H s pol draws spk wx hm hw2 hh2 hl hp).mono fun _ _ ⟨vl, e, L, h1, h2, h3, h4⟩ => ⟨vl, e, ⟨L, h1, ⟨h2.row.mono hI.2.2.2.2, fun p hp => (h2.pts p hp).mono hI.2.2.2.2, h2.apart⟩, h4⟩, hI.on h3⟩
theorem good_of {W H : Nat} {l : List UInt8} (h1 : 1 ≤ W) (h2 : W ≤ 32) (h3 : 1 ≤ H) (h4 : H ≤ 32) (hl : l.length = W * H) (ha : l.all Pm.okPix = true) : Pm.goodB W H l = true :=
  Pm.goodB_yes (by simp [Pm.sideB]; omega) (by simp [Pm.sideB]; omega) (by rw [hl]; simp) ha
theorem may_of {W H : Nat} {l : List UInt8} {pol spk : Int} (h : Pm.goodB W H l = true) (p0 : 0 ≤ pol) (p3 : pol ≤ 3) (s0 : 0 ≤ spk) (s1 : spk ≤ 1024) : mayB W H l pol spk = true := by
  rw [mayB_good ⟨p0, p3⟩ ⟨s0, s1⟩]; exact h

/-- In Walked's loop: the shape number i stands where it stood, the marks are G. -/
def Wd (gg gl i g m c : Nat) (tw : Int) (X : World) (G : Nat → Bool) (w : World) : Prop :=
  w.cell? ⟨gl, i * 2, none⟩ = some (.slice (some ⟨g, 0, none⟩) m c) ∧ w.cell? ⟨gl, i * 2 + 1, none⟩ = some (.int .i64 tw) ∧ Below gg X w ∧ GoneAt gg 4356 G w
theorem Wd.on {gg gl i g m c : Nat} {tw : Int} {X : World} {G : Nat → Bool} {w w' : World} (h : Wd gg gl i g m c tw X G w) (hg : gl < gg) (hb : Below w.heap.size w w') : Wd gg gl i g m c tw X G w' := by
  obtain ⟨h1, h2, h3, h4⟩ := h
  have := h4.1
  exact ⟨(hb.cell (p := ⟨gl, i * 2, none⟩) (show gl < _ by omega)).trans h1, (hb.cell (p := ⟨gl, i * 2 + 1, none⟩) (show gl < _ by omega)).trans h2, h3.trans (hb.mono (by omega)), h4.on hb h4.1⟩
theorem Wd.drew {gg gl i g m c : Nat} {tw : Int} {X : World} {G : Nat → Bool} {w : World} (h : Wd gg gl i g m c tw X G w) (hg : gl < gg) : Wd gg gl i g m c tw X G w.drew :=
  h.on hg ⟨rfl, rfl, rfl, Nat.le_refl _, fun _ _ => rfl⟩
theorem twice_wd {gg gl i g m c : Nat} {X : World} {G : Nat → Bool} {w : World} (l : List (Int × Int)) (h : Wd gg gl i g m c (Qm.twiceOf l) X G w) (hg : gl < gg) (hn : m = l.length) (h0 : 0 < m) (hs : Qm.Small l) (hn2 : m ≤ 4356) (hP : PtsAt g l X) (hgg : gg = X.heap.size) :
    Calls Try.prog 16 #[.agg #[.slice (some ⟨g, 0, none⟩) m c, .int .i64 (Qm.twiceOf l)]] w fun e w' => e = .returned (.int .i64 (Qm.twiceOf l)) ∧ Wd gg gl i g m c (Qm.twiceOf l) X G w' :=
  (keepTwice_any g m c _ l hn h0 hs hn2 w (hP.on h.2.2.1 (by rw [hgg]; exact hP.1))).mono fun _ _ ⟨h1, h2⟩ => ⟨h1, h.on hg h2⟩
/-- What stands at the shape number i. -/
theorem Shown.at {f : Qm.Sd → Qm.Sd} {al : Option Addr} {cl n : Nat} {L : List (Value × (Qm.Sd × Nat))} {X : World} (h : Shown f (.slice al n cl) L X) {R : List (Qm.Sd × Nat)} (hR : R = L.map (·.2)) {gl : Nat} (hc : ∀ j u, (shpV f L)[j]? = some u → X.cell? ⟨gl, j, none⟩ = some u) {i : Nat} (hi : i < R.length) :
    ∃ g c, 0 < R[i].2 ∧ PtsAt g (Qm.ptsOf f R[i]) X ∧ X.cell? ⟨gl, i * 2, none⟩ = some (.slice (some ⟨g, 0, none⟩) R[i].2 c) ∧ X.cell? ⟨gl, i * 2 + 1, none⟩ = some (.int .i64 (Qm.twiceOf (Qm.ptsOf f R[i]))) := by
  subst hR
  have hi' : i < L.length := by simpa using hi
  obtain ⟨g, c, e, h0, hp⟩ := h.pts L[i] (List.getElem_mem hi')
  have s := shpV_at f L i hi'
  rw [e] at s
  refine ⟨g, c, ?_⟩
  simp only [List.getElem_map]
  exact ⟨h0, hp, hc _ _ s.1, hc _ _ s.2⟩

/-- .. and beside it the shape ahead of it, and both first points. -/
def Wp (gg gl j i g m c g' m' c' : Nat) (tw xa ya xb yb : Int) (X : World) (G : Nat → Bool) (w : World) : Prop :=
  w.cell? ⟨gl, j * 2, none⟩ = some (.slice (some ⟨g', 0, none⟩) m' c') ∧ w.cell? ⟨g', 0, none⟩ = some (.int .i64 xa) ∧ w.cell? ⟨g', 1, none⟩ = some (.int .i64 ya) ∧ w.cell? ⟨g, 0, none⟩ = some (.int .i64 xb) ∧ w.cell? ⟨g, 1, none⟩ = some (.int .i64 yb) ∧ w.cell? ⟨gl, i * 2, none⟩ = some (.slice (some ⟨g, 0, none⟩) m c) ∧ w.cell? ⟨gl, i * 2 + 1, none⟩ = some (.int .i64 tw) ∧ Below gg X w ∧ GoneAt gg 4356 G w
theorem Wp.mk' {gg gl j i g m c g' m' c' : Nat} {tw : Int} {X : World} {G : Nat → Bool} {w : World} {l l' : List (Int × Int)} (h : Wd gg gl i g m c tw X G w) (hgl : gl < gg) (hX : gg = X.heap.size) (hc : X.cell? ⟨gl, j * 2, none⟩ = some (.slice (some ⟨g', 0, none⟩) m' c')) (hl : PtsAt g l X) (hl' : PtsAt g' l' X) (h0 : 0 < l.length) (h0' : 0 < l'.length) :
    Wp gg gl j i g m c g' m' c' tw (l'.getD 0 (0, 0)).1 (l'.getD 0 (0, 0)).2 (l.getD 0 (0, 0)).1 (l.getD 0 (0, 0)).2 X G w := by
  have b := h.2.2.1
  have z := hl.1
  have z' := hl'.1
  have p := (hl.on b (by omega)).2 0 h0
  have p' := (hl'.on b (by omega)).2 0 h0'
  exact ⟨(b.cell (p := ⟨gl, j * 2, none⟩) hgl).trans hc, p'.1, p'.2, p.1, p.2, h⟩
theorem Wp.wd {gg gl j i g m c g' m' c' : Nat} {tw xa ya xb yb : Int} {X : World} {G : Nat → Bool} {w : World} (h : Wp gg gl j i g m c g' m' c' tw xa ya xb yb X G w) : Wd gg gl i g m c tw X G w := h.2.2.2.2.2
theorem Wp.on {gg gl j i g m c g' m' c' : Nat} {tw xa ya xb yb : Int} {X : World} {G : Nat → Bool} {w w' : World} (h : Wp gg gl j i g m c g' m' c' tw xa ya xb yb X G w) (hgl : gl < gg) (hg : g < gg) (hg' : g' < gg) (hb : Below w.heap.size w w') : Wp gg gl j i g m c g' m' c' tw xa ya xb yb X G w' := by
  have z := h.wd.2.2.2.1
  obtain ⟨h1, h2, h3, h4, h5, h6⟩ := h
  exact ⟨(hb.cell (p := ⟨gl, j * 2, none⟩) (show gl < _ by omega)).trans h1, (hb.cell (p := ⟨g', 0, none⟩) (show g' < _ by omega)).trans h2, (hb.cell (p := ⟨g', 1, none⟩) (show g' < _ by omega)).trans h3, (hb.cell (p := ⟨g, 0, none⟩) (show g < _ by omega)).trans h4, (hb.cell (p := ⟨g, 1, none⟩) (show g < _ by omega)).trans h5, Wd.on h6 hgl hb⟩
theorem Wp.drew {gg gl j i g m c g' m' c' : Nat} {tw xa ya xb yb : Int} {X : World} {G : Nat → Bool} {w : World} (h : Wp gg gl j i g m c g' m' c' tw xa ya xb yb X G w) (hgl : gl < gg) (hg : g < gg) (hg' : g' < gg) : Wp gg gl j i g m c g' m' c' tw xa ya xb yb X G w.drew := h.on hgl hg hg' ⟨rfl, rfl, rfl, Nat.le_refl _, fun _ _ => rfl⟩
theorem before_wp {gg gl j i g m c g' m' c' : Nat} {tw xa ya xb yb : Int} {X : World} {G : Nat → Bool} {w : World} (h : Wp gg gl j i g m c g' m' c' tw xa ya xb yb X G w) (hgl : gl < gg) (hg : g < gg) (hg' : g' < gg) (hlt : ya < yb ∨ (ya = yb ∧ xa < xb)) :
    Calls Try.prog 17 #[.agg #[.int .i64 xa, .int .i64 ya], .agg #[.int .i64 xb, .int .i64 yb]] w fun e w' => e = .returned (.bool true) ∧ Wp gg gl j i g m c g' m' c' tw xa ya xb yb X G w' :=
  (before_any xa ya xb yb w).mono fun _ _ ⟨h1, h2⟩ => ⟨by rw [h1, decide_eq_true hlt], h.on hgl hg hg' (by rw [h2]; exact ((Below.refl _ _).alloc (Nat.le_refl _) _).alloc (by simp) _)⟩
/-- In its inner loop: the two points of a line, in boxes. -/
def Wq (gg gl i g m c b : Nat) (pa pb qa qb xb yb : Int) (X : World) (G : Nat → Bool) (w : World) : Prop :=
  w.cell? ⟨b, 0, none⟩ = some (.int .i64 pa) ∧ w.cell? ⟨b, 1, none⟩ = some (.int .i64 pb) ∧ w.cell? ⟨b + 1, 0, none⟩ = some (.int .i64 qa) ∧ w.cell? ⟨b + 1, 1, none⟩ = some (.int .i64 qb) ∧ w.cell? ⟨gl, i * 2, none⟩ = some (.slice (some ⟨g, 0, none⟩) m c) ∧ w.cell? ⟨g, 0, none⟩ = some (.int .i64 xb) ∧ w.cell? ⟨g, 1, none⟩ = some (.int .i64 yb) ∧ b + 1 < w.heap.size ∧ Below gg X w ∧ GoneAt gg 4356 G w
theorem Wq.on {gg gl i g m c b : Nat} {pa pb qa qb xb yb : Int} {X : World} {G : Nat → Bool} {w w' : World} (h : Wq gg gl i g m c b pa pb qa qb xb yb X G w) (hgl : gl < gg) (hg : g < gg) (hb : Below w.heap.size w w') : Wq gg gl i g m c b pa pb qa qb xb yb X G w' := by
  obtain ⟨h1, h2, h3, h4, h5, h6, h7, h8, h9, h10⟩ := h
  have z := h10.1
  have zz := hb.size
  exact ⟨(hb.cell (p := ⟨b, 0, none⟩) (show b < _ by omega)).trans h1, (hb.cell (p := ⟨b, 1, none⟩) (show b < _ by omega)).trans h2, (hb.cell (p := ⟨b + 1, 0, none⟩) (show b + 1 < _ by omega)).trans h3, (hb.cell (p := ⟨b + 1, 1, none⟩) (show b + 1 < _ by omega)).trans h4, (hb.cell (p := ⟨gl, i * 2, none⟩) (show gl < _ by omega)).trans h5, (hb.cell (p := ⟨g, 0, none⟩) (show g < _ by omega)).trans h6, (hb.cell (p := ⟨g, 1, none⟩) (show g < _ by omega)).trans h7, by omega, h9.trans (hb.mono (by omega)), h10.on hb h10.1⟩
theorem Wq.drew {gg gl i g m c b : Nat} {pa pb qa qb xb yb : Int} {X : World} {G : Nat → Bool} {w : World} (h : Wq gg gl i g m c b pa pb qa qb xb yb X G w) (hgl : gl < gg) (hg : g < gg) : Wq gg gl i g m c b pa pb qa qb xb yb X G w.drew := h.on hgl hg ⟨rfl, rfl, rfl, Nat.le_refl _, fun _ _ => rfl⟩
theorem Wq.new {gg gl i g m c : Nat} {pa pb qa qb xb yb : Int} {X : World} {G : Nat → Bool} {w : World} (hgl : gl < gg) (hg : g < gg) (t : TypeId) (h5 : w.cell? ⟨gl, i * 2, none⟩ = some (.slice (some ⟨g, 0, none⟩) m c)) (h6 : w.cell? ⟨g, 0, none⟩ = some (.int .i64 xb)) (h7 : w.cell? ⟨g, 1, none⟩ = some (.int .i64 yb)) (h9 : Below gg X w) (h10 : GoneAt gg 4356 G w) :
    Wq gg gl i g m c w.heap.size pa pb qa qb xb yb X G ((w.alloc (.cells #[.int .i64 pa, .int .i64 pb] t)).alloc (.cells #[.int .i64 qa, .int .i64 qb] t)) := by
  have z := h10.1
  have hb : Below w.heap.size w ((w.alloc (.cells #[.int .i64 pa, .int .i64 pb] t)).alloc (.cells #[.int .i64 qa, .int .i64 qb] t)) := ((Below.refl _ _).alloc (Nat.le_refl _) _).alloc (by simp) _
  exact ⟨by simp, by simp, by simp, by simp, (hb.cell (p := ⟨gl, i * 2, none⟩) (show gl < _ by omega)).trans h5, (hb.cell (p := ⟨g, 0, none⟩) (show g < _ by omega)).trans h6, (hb.cell (p := ⟨g, 1, none⟩) (show g < _ by omega)).trans h7, by simp, h9.trans (hb.mono (by omega)), h10.on hb h10.1⟩
theorem before_wq {gg gl i g m c b : Nat} {pa pb qa qb xb yb : Int} {X : World} {G : Nat → Bool} {w : World} (h : Wq gg gl i g m c b pa pb qa qb xb yb X G w) (hgl : gl < gg) (hg : g < gg) (hn : decide (pb < yb ∨ (pb = yb ∧ pa < xb)) = false) :
    Calls Try.prog 17 #[.agg #[.int .i64 pa, .int .i64 pb], .agg #[.int .i64 xb, .int .i64 yb]] w fun e w' => e = .returned (.bool false) ∧ Wq gg gl i g m c b pa pb qa qb xb yb X G w' :=
  (before_any pa pb xb yb w).mono fun _ _ ⟨h1, h2⟩ => ⟨by rw [h1, hn], h.on hgl hg (by rw [h2]; exact ((Below.refl _ _).alloc (Nat.le_refl _) _).alloc (by simp) _)⟩
theorem first_at {f : Qm.Sd → Qm.Sd} {c : Qm.Sd × Nat} (h : 0 < c.2) : (Qm.ptsOf f c).getD 0 (0, 0) = (c.1.1, c.1.2.1) := Qm.ptsOf_getD f c 0 h
end Go.Proofs.Ytgapfjjdccohkaa

/- outlinekeep: traces; the polygons where there is no speckle. -/
namespace Go.Proofs.Ytgapfjjdccohkaa
open Go.RowKit

namespace Qm
theorem bigB_zero {bl jn : Int → Int → Bool} {c : Sd × Nat} (h : Cyc (nx bl jn) (fun s => isS bl s = true) c.1 c.2) {W H : Nat} (hp : Pic bl W H) : bigB (nx bl jn) 0 c = true := by
  have := h.twice_ne hp
  unfold bigB absZ
  rw [decide_eq_true_eq]
  split <;> omega
theorem polys_zero {bl jn : Int → Int → Bool} {R : List (Sd × Nat)} (h : Res (nx bl jn) (fun s => isS bl s = true) key R) {W H : Nat} (hp : Pic bl W H) : polys (nx bl jn) 0 R = R.map fun c => cornL (ptsOf (nx bl jn) c) := by
  unfold polys
  rw [List.filter_eq_self.2 fun c hc => bigB_zero (h.1 c hc).1 hp]
end Qm

theorem polys_one : Qm.polys (fB 1 1 ⟨#[49]⟩ 0 ⟨#[]⟩) 0 [((0, 0, 0), 4)] = [[(0, 0), (0, 1), (1, 1), (1, 0)]] := by decide
theorem one_traced {vl : Value} {w w' : World} (h : TraceOut 1 1 ⟨#[49]⟩ 0 ⟨#[]⟩ 0 w vl w') : Below w.heap.size w w' ∧ ∃ gl cap g c, vl = .slice (some ⟨gl, 0, none⟩) 1 cap ∧ gl < w'.heap.size ∧ g < w'.heap.size ∧ w'.cell? ⟨gl, 0, none⟩ = some (.slice (some ⟨g, 0, none⟩) 4 c) ∧ w'.cell? ⟨gl, 1, none⟩ = some (.int .i64 2) := by
  obtain ⟨R, L, h1, h2, h3, _, h5⟩ := h
  refine ⟨h5, ?_⟩
  have e := h1.unique res_one
  subst e
  rw [polys_one] at h2
  obtain ⟨v, rfl⟩ : ∃ v, L = [(v, [(0, 0), (0, 1), (1, 1), (1, 0)])] := by
    match L, h2 with
    | [], e => simp at e
    | [(v, c)], e => simp at e; subst e; exact ⟨v, rfl⟩
    | _ :: _ :: _, e => simp at e
  have sh := h3.shown (fun p hp => by simp at hp; subst hp; simp)
  obtain ⟨ao, cap, rfl, hr⟩ := sh.row
  obtain ⟨gl, rfl, hgl, hc⟩ := hr.resolve_left (by simp)
  obtain ⟨g, c, hv, _, hg, hp⟩ := sh.pts _ (List.mem_singleton.2 rfl)
  simp only at hv hp
  subst hv
  have s0 := shpP_at [((Value.slice (some ⟨g, 0, none⟩) 4 c), [((0 : Int), (0 : Int)), (0, 1), (1, 1), (1, 0)])] 0 (by simp)
  have c0 := hc _ _ s0.1
  have c1 := hc _ _ s0.2
  have et : Qm.twiceOf [(0, 0), (0, 1), (1, 1), (1, 0)] = 2 := by decide
  simp only [List.getElem_cons_zero, et] at c0 c1
  exact ⟨gl, cap, g, c, rfl, hgl, hg, c0, c1⟩

set_option maxRecDepth 4000 in
set_option maxHeartbeats 1000000 in
theorem traces_any (w : World) :
    Calls Try.prog 24 #[] w fun e w' => e = .returned (.bool true) ∧ Below w.heap.size w w' := by
  go_enter Try.func24, Try.ntmps24
  go_wp2_with fail
  refine (works_any _).mono ?_
  rintro e w0 ⟨rfl, hb0⟩
  have B0 := hid (show Below w.heap.size w w0 from hb0)
  clear hb0
  go_wp2_with fail
  refine (trace_yes 1 1 ⟨#[49]⟩ 0 ⟨#[]⟩ 0 _ (by decide) (by omega) (by omega) rfl (by omega) (by omega) (by omega)).mono ?_
  rintro e w1 ⟨vl, rfl, ho⟩
  obtain ⟨hb, gl, cap, g, c, rfl, hgl, hg, c0, c1⟩ := one_traced ho
  have B1 := hid (show Below w.heap.size w w1 from B0.out.trans (hb.mono B0.out.size))
  clear hb ho
  go_wp2
  go_ret
  exact ⟨rfl, B1.out⟩
end Go.Proofs.Ytgapfjjdccohkaa

/- built: a bitmap out of raw numbers, of at most so many pixels a side. -/
namespace Go.Proofs.Ytgapfjjdccohkaa
open Go.RowKit

set_option maxRecDepth 4000 in
set_option maxHeartbeats 2000000 in
theorem built_most (most : Nat) (hm1 : 1 ≤ most) (hm2 : most ≤ 32) (ao : Option Addr) (len cap : Nat) (a h : Int) (w : World) (hraw : RawIs ao len w) (hlen : len ≤ 140737488355328) (a1 : -9223372036854775808 ≤ a) (a2 : a ≤ 9223372036854775807) (h1 : -9223372036854775808 ≤ h) (h2 : h ≤ 9223372036854775807) :
    Calls Try.prog 13 #[.slice ao len cap, .int .i64 a, .int .i64 h, .int .i64 most] w fun e w' => (∃ (W H : Nat) (l : List UInt8), e = .returned (.agg #[.int .i64 W, .int .i64 H, .string ⟨l.toArray⟩]) ∧ 1 ≤ W ∧ W ≤ most ∧ 1 ≤ H ∧ H ≤ most ∧ l.length = W * H ∧ l.all Pm.okPix = true) ∧ Below w.heap.size w w' := by
  obtain ⟨i0, hi, hz0, hz1, hz2⟩ := info_parts infoByte
  go_enter Try.func13, Try.ntmps13
  go_wp2_with fail
  refine (pick_any a most a1 a2 hm1 hm2 _).mono ?_
  rintro e w1 ⟨⟨r1, rfl, hr1⟩, rfl⟩
  go_wp2_with fail
  refine (pick_any h most h1 h2 hm1 hm2 _).mono ?_
  rintro e w1 ⟨⟨r2, rfl, hr2⟩, rfl⟩
  go_wp2
  have hraw2 := hid hraw
  clear hraw
  obtain ⟨W, hW⟩ : ∃ W, W = 1 + r1 := ⟨_, rfl⟩
  obtain ⟨H, hH⟩ : ∃ H, H = 1 + r2 := ⟨_, rfl⟩
  have eW : (1 : Int) + (r1 : Int) = (W : Nat) := by omega
  have eH : (1 : Int) + (r2 : Int) = (H : Nat) := by omega
  have W1 : 1 ≤ W := by omega
  have W2m : W ≤ most := by omega
  have W2 : W ≤ 32 := by omega
  have H1 : 1 ≤ H := by omega
  have H2m : H ≤ most := by omega
  have H2 : H ≤ 32 := by omega
  simp only [eW, eH]
  clear eW eH hW hH hr1 hr2
  obtain ⟨t, ht⟩ : ∃ t, t = W * H := ⟨_, rfl⟩
  have et : (W : Int) * (H : Int) = (t : Nat) := by rw [ht]; simp
  have t1 : 1 ≤ t := by rw [ht]; exact Nat.mul_le_mul W1 H1
  have t2 : t ≤ 1024 := by rw [ht]; exact Nat.mul_le_mul W2 H2
  have T := hid ht
  clear ht
  obtain ⟨X, hX⟩ : ∃ X, X = (w.alloc (.cells #[.int .i64 0, .int .i64 0, .string ⟨#[]⟩] 23)).alloc (.cells #[.int .i64 W, .int .i64 H, .string ⟨#[]⟩] 23) := ⟨_, rfl⟩
  have Xs : X.heap.size = w.heap.size + 2 := by rw [hX]; simp
  have Xb : Below w.heap.size w X := by rw [hX]; exact ((Below.refl _ _).alloc (Nat.le_refl _) _).alloc (by simp) _
  have Y := Box3.new w (.int .i64 0) (.int .i64 0) (.string ⟨#[]⟩) 23 |>.alloc (.cells #[.int .i64 W, .int .i64 H, .string ⟨#[]⟩] 23)
  have Z := Box3.new (w.alloc (.cells #[.int .i64 0, .int .i64 0, .string ⟨#[]⟩] 23)) (.int .i64 W) (.int .i64 H) (.string ⟨#[]⟩) 23
  rw [← hX] at Y Z
  rw [← hX]
  have XS := hid Xs
  have XB := hid Xb
  have YH := hid Y
  have ZH := hid Z
  clear hX Xs Xb Y Z
  go_loopw [10, 11] (fun v i wr => ∃ (l : List UInt8), i = .int .i64 l.length ∧ l.length ≤ t ∧ Hid (l.all Pm.okPix = true) ∧ wr.ownsRow (w.heap.size + 2) 5 1 v l.length (cellsOf l) ∧ Below (w.heap.size + 2) X wr) (fun _ i _ => t - (intOf i).toNat)
  case atStart => exact ⟨[], rfl, by simp, rfl, World.ownsRow_nil _ _ _ _, Below.refl _ _⟩
  case round =>
    obtain ⟨l, rfl, hlt0, hall, hown, hnx⟩ := hrel
    have hsz : w.heap.size + 2 ≤ wr.heap.size := by have := hnx.size; have := XS.out; omega
    have hnx2 : Below X.heap.size X wr := hnx.mono (by rw [XS.out]; omega)
    obtain ⟨⟨y0, y1, y2⟩, ⟨g0, g1, g2⟩, yB, yz⟩ := YH.out.on hnx2
    obtain ⟨⟨z0, z1, z2⟩, ⟨j0, j1, j2⟩, zB, zz⟩ := ZH.out.on hnx2
    simp at z0 z1 z2 j0 j1 j2 zz
    have HB := hid yB
    have HN := hid hnx2
    clear yB zB hnx2
    by_cases hlt : l.length < t
    · by_cases hq : l.length / 16 < len
      · rcases hraw2.out with hl0 | ⟨b, off, rfl, hb0, hcell⟩
        · omega
        · obtain ⟨z, hz⟩ := hcell (l.length / 16) hq
          have hzr : wr.cell? ⟨b, off + l.length / 16, none⟩ = some (.int .i64 z) := ((HN.out.mono (by rw [XS.out]; omega)).cell (p := ⟨b, off + l.length / 16, none⟩) (show b < w.heap.size from hb0)).trans ((XB.out.cell (p := ⟨b, off + l.length / 16, none⟩) hb0).trans hz)
          clear hz hcell
          obtain ⟨bit, hbit, hbe⟩ := and_one_i64 (z / 2 ^ (l.length % 16))
          have BV : (UInt8.ofNat (48 + bit)).toNat = 48 + bit := by simp only [UInt8.toNat_ofNat']; omega
          have BO : Hid (Pm.okPix (UInt8.ofNat (48 + bit)) = true) := Pm.okPix_of _ (by rw [BV]; omega)
          have BVH := hid BV
          clear BV
          go_wp2_with (first
            | (at_builtin; refine wpList_append_own _ rfl _ _ 72 rfl (w.heap.size + 2) 5 i0 (.int .u8 0) 1 1 Try.underlying72 hi hz0 hz1 hz2 rfl (by decide) _ _ _ rfl (hown.alloc _) ⟨_, 0, none⟩ 1 1 [.int .u8 (48 + (bit : Int))] rfl rfl ?c1 ?c2 ?c3 ?c4 ?c5 ?_))
          case c1 =>
            intro j' u hj'
            match j', hj' with
            | 0, hj' => simp at hj'; subst hj'; simp [Addr.add]
          case c2 => intro u hu; simp at hu; subst hu; rfl
          case c3 => unfold maxLen; omega
          case c4 => omega
          case c5 => simp; omega
          · intro v' w3 hown' hgrow _
            have hb : Below (w.heap.size + 2) X w3 := (hnx.alloc (by omega) _).grown hgrow (by simp; omega) (fun k hk => (hown.lt k hk).1)
            have ho : w3.ownsRow (w.heap.size + 2) 5 1 v' (l ++ [UInt8.ofNat (48 + bit)]).length (cellsOf (l ++ [UInt8.ofNat (48 + bit)])) := by rw [cellsOf_snoc, List.length_append, BVH.out]; exact hown'
            clear hown' hgrow hown
            go_wp2
            go_roundw
            case rel => exact ⟨l ++ [UInt8.ofNat (48 + bit)], by simp, by simp; omega, by show _ = _; rw [List.all_append, hall.out]; simp only [List.all_cons, List.all_nil, Bool.and_true, Bool.true_and]; exact BO.out, ho, hb⟩
            case measure => simp [intOf]; omega
      · go_wp2_with (first
          | (at_builtin; refine wpList_append_own _ rfl _ _ 72 rfl (w.heap.size + 2) 5 i0 (.int .u8 0) 1 1 Try.underlying72 hi hz0 hz1 hz2 rfl (by decide) _ _ _ rfl (hown.alloc _) ⟨_, 0, none⟩ 1 1 [.int .u8 48] rfl rfl ?c1 ?c2 ?c3 ?c4 ?c5 ?_))
        case c1 =>
          intro j' u hj'
          match j', hj' with
          | 0, hj' => simp at hj'; subst hj'; simp [Addr.add]
        case c2 => intro u hu; simp at hu; subst hu; rfl
        case c3 => unfold maxLen; omega
        case c4 => omega
        case c5 => simp; omega
        · intro v' w3 hown' hgrow _
          have hb : Below (w.heap.size + 2) X w3 := (hnx.alloc (by omega) _).grown hgrow (by simp; omega) (fun k hk => (hown.lt k hk).1)
          have ho : w3.ownsRow (w.heap.size + 2) 5 1 v' (l ++ [48]).length (cellsOf (l ++ [48])) := by rw [cellsOf_snoc, List.length_append, show (48 : UInt8).toNat = 48 from rfl]; exact hown'
          clear hown' hgrow hown
          go_wp2
          go_roundw
          case rel => exact ⟨l ++ [48], by simp, by simp; omega, by show _ = _; rw [List.all_append, hall.out]; simp only [List.all_cons, List.all_nil, Bool.and_true, Bool.true_and]; exact rfl, ho, hb⟩
          case measure => simp [intOf]; omega
    · have hB1 : 0 < l.length := by omega
      have LT := hid (show l.length = W * H by rw [← T.out]; omega)
      rcases hown.2 with ⟨-, h0⟩ | ⟨g, cap, cur, rfl, -, -, -, -, -, -⟩
      · omega
      · have hcv := run_convert_bytes_back (P := Try.prog) wr 72 9 5 ⟨g, 0, none⟩ cap l Try.underlying72 Try.underlying5 Try.underlying9 (fun j hj => hown.cells (g := g) rfl j _ (by simp [cellsOf, hj]))
        go_wp2
        refine bodyPost_ret (v := .agg #[.int .i64 W, .int .i64 H, .string ⟨l.toArray⟩]) (by simp [results, Try.results13, go_sem, y0, y1, y2]) rfl ?_
        exact ⟨⟨W, H, l, rfl, W1, W2m, H1, H2m, LT.out, hall.out⟩, (((HB.out.setCell (by simp) _).setCell (by simp) _).setCell (by simp) _).setCell (by simp) _⟩
end Go.Proofs.Ytgapfjjdccohkaa

/- pick, of up to 2000 things. -/
namespace Go.Proofs.Ytgapfjjdccohkaa
open Go.RowKit

set_option maxHeartbeats 400000 in
theorem pick_big (c : Int) (n : Nat) (c1 : -9223372036854775808 ≤ c) (c2 : c ≤ 9223372036854775807) (n1 : 1 ≤ n) (n2 : n ≤ 2000) (w : World) :
    Calls Try.prog 28 #[.int .i64 c, .int .i64 n] w fun e w' => (∃ r : Nat, e = .returned (.int .i64 r) ∧ r < n) ∧ w' = w := by
  by_cases h : c < 0
  · have e1 : -(c + 1).tmod (n : Int) = ((((-(c + 1)) % (n : Int)).toNat : Nat) : Int) := by
      rw [← Int.neg_tmod, Int.tmod_eq_emod_of_nonneg (by omega)]
      have := Int.emod_nonneg (-(c + 1)) (show (n : Int) ≠ 0 by omega)
      omega
    have e2 : ((-(c + 1)) % (n : Int)).toNat < n := by
      have := Int.emod_nonneg (-(c + 1)) (show (n : Int) ≠ 0 by omega)
      have := Int.emod_lt_of_pos (-(c + 1)) (show (0 : Int) < n by omega)
      omega
    have E1 : Hid _ := e1
    have E2 : Hid _ := e2
    clear e1 e2
    go_enter Try.func28, Try.ntmps28
    go_wp2
    go_ret
    exact ⟨⟨_, ret_int E1.out, E2.out⟩, rfl⟩
  · have e1 : c % (n : Int) = (((c % (n : Int)).toNat : Nat) : Int) := by
      have := Int.emod_nonneg c (show (n : Int) ≠ 0 by omega)
      omega
    have e2 : (c % (n : Int)).toNat < n := by
      have := Int.emod_nonneg c (show (n : Int) ≠ 0 by omega)
      have := Int.emod_lt_of_pos c (show (0 : Int) < n by omega)
      omega
    have E1 : Hid _ := e1
    have E2 : Hid _ := e2
    clear e1 e2
    go_enter Try.func28, Try.ntmps28
    go_wp2
    go_ret
    exact ⟨⟨_, ret_int E1.out, E2.out⟩, rfl⟩
end Go.Proofs.Ytgapfjjdccohkaa
