import Derived.Test.YtljfiefobnncaaaK24
import Derived.Test.YtljfiefobnncaaaK17

/- outlinekeep: what Walked asks first: options and Cycles beside a bitmap that lies in a box. -/
namespace Go.Proofs.Ytljfiefobnncaaa
open Go.RowKit

theorem RawIs.on {ao : Option Addr} {len : Nat} {w w' : World} (h : RawIs ao len w) (hb : Below w.heap.size w w') : RawIs ao len w' := by
  rcases h with h | ⟨b, off, e, hlt, hc⟩
  · exact .inl h
  · refine .inr ⟨b, off, e, Nat.lt_of_lt_of_le hlt hb.size, fun j hj => ?_⟩
    obtain ⟨z, hz⟩ := hc j hj
    exact ⟨z, (hb.cell (p := ⟨b, off + j, none⟩) hlt).trans hz⟩
theorem inb_new (w : World) (W H : Nat) (s : ByteArray) (t : TypeId) : Inb w.heap.size W H s w (w.alloc (.cells #[.int .i64 W, .int .i64 H, .string s] t)).drew :=
  ⟨by simp [go_sem], by simp [go_sem], by simp [go_sem], ((Below.refl _ _).alloc (Nat.le_refl _) _).trans ⟨rfl, rfl, rfl, Nat.le_refl _, fun _ _ => rfl⟩, by simp [go_sem]⟩
theorem Inb.bmp {B W H : Nat} {s : ByteArray} {w wr : World} (h : Inb B W H s w wr) : Bmp B W H s wr := ⟨h.2.2.2.2, h.1, h.2.1, h.2.2.1⟩
theorem options_inb {B W H : Nat} {s : ByteArray} {w wx : World} (hI : Inb B W H s w wx) (p : Int) (draws : ByteArray) (p1 : -9223372036854775808 ≤ p) (p2 : p ≤ 9223372036854775807) :
    Calls Try.prog 16 #[.int .i64 p, .string draws] wx fun e w' => (∃ r : Nat, e = .returned (.agg #[.int .i64 r, .string draws, .int .i64 0]) ∧ r ≤ 3) ∧ Inb B W H s w w' :=
  (options_any p draws p1 p2 wx).mono fun _ _ ⟨h, hb⟩ => ⟨h, hI.on hb⟩
theorem cycles_inb {B W H : Nat} {s : ByteArray} {w wx : World} (hI : Inb B W H s w wx) (pol : Nat) (draws : ByteArray) (spk : Int) (hm : mayB W H s.data.toList pol spk = true) (hw2 : W ≤ 32) (hh2 : H ≤ 32) (hl : s.size = W * H) (hp : pol ≤ 3) :
    Calls Try.prog 15 #[.agg #[.int .i64 W, .int .i64 H, .string s], .agg #[.int .i64 pol, .string draws, .int .i64 spk]] wx fun e w' => ∃ vl, e = .returned (.tuple #[vl, .int .i64 0]) ∧ (∃ L, Qm.Res (fB W H s pol draws) (bB W H s) Qm.key (L.map (·.2)) ∧ Rowed (fB W H s pol draws) (B + 1) vl L w' ∧ L.length ≤ 1200) ∧ Inb B W H s w w' :=
  (cycles_yes W H s pol draws spk wx hm hw2 hh2 hl hp).mono fun _ _ ⟨vl, e, L, h1, h2, h3, h4⟩ => ⟨vl, e, ⟨L, h1, ⟨h2.row.mono hI.2.2.2.2, fun p hp => (h2.pts p hp).mono hI.2.2.2.2, h2.apart⟩, h4⟩, hI.on h3⟩
theorem good_of {W H : Nat} {l : List UInt8} (h1 : 1 ≤ W) (h2 : W ≤ 32) (h3 : 1 ≤ H) (h4 : H ≤ 32) (hl : l.length = W * H) (ha : l.all Pm.okPix = true) : Pm.goodB W H l = true :=
  Pm.goodB_yes (by simp [Pm.sideB]; omega) (by simp [Pm.sideB]; omega) (by rw [hl]; simp) ha
theorem may_of {W H : Nat} {l : List UInt8} {pol spk : Int} (h : Pm.goodB W H l = true) (p0 : 0 ≤ pol) (p3 : pol ≤ 3) (s0 : 0 ≤ spk) (s1 : spk ≤ 1024) : mayB W H l pol spk = true := by
  rw [mayB_good ⟨p0, p3⟩ ⟨s0, s1⟩]; exact h

/-- In Walked's loop: the shape number i stands where it stood, the marks are G. -/
def Wd (gg gl i g m c : Nat) (tw : Int) (X : World) (G : Nat → Bool) (w : World) : Prop :=
  w.cell? ⟨gl, i * 2, none⟩ = some (.slice (some ⟨g, 0, none⟩) m c) ∧ w.cell? ⟨gl, i * 2 + 1, none⟩ = some (.int .i64 tw) ∧ Below gg X w ∧ GoneAt gg 4356 G w
theorem Wd.on {gg gl i g m c : Nat} {tw : Int} {X : World} {G : Nat → Bool} {w w' : World} (h : Wd gg gl i g m c tw X G w) (hg : gl < gg) (hb : Below w.heap.size w w') : Wd gg gl i g m c tw X G w' := by
  obtain ⟨h1, h2, h3, h4⟩ := h
  have := h4.1
  exact ⟨(hb.cell (p := ⟨gl, i * 2, none⟩) (show gl < _ by omega)).trans h1, (hb.cell (p := ⟨gl, i * 2 + 1, none⟩) (show gl < _ by omega)).trans h2, h3.trans (hb.mono (by omega)), h4.on hb h4.1⟩
theorem Wd.drew {gg gl i g m c : Nat} {tw : Int} {X : World} {G : Nat → Bool} {w : World} (h : Wd gg gl i g m c tw X G w) (hg : gl < gg) : Wd gg gl i g m c tw X G w.drew :=
  h.on hg ⟨rfl, rfl, rfl, Nat.le_refl _, fun _ _ => rfl⟩
theorem twice_wd {gg gl i g m c : Nat} {X : World} {G : Nat → Bool} {w : World} (l : List (Int × Int)) (h : Wd gg gl i g m c (Qm.twiceOf l) X G w) (hg : gl < gg) (hn : m = l.length) (h0 : 0 < m) (hs : Qm.Small l) (hn2 : m ≤ 4356) (hP : PtsAt g l X) (hgg : gg = X.heap.size) :
    Calls Try.prog 17 #[.agg #[.slice (some ⟨g, 0, none⟩) m c, .int .i64 (Qm.twiceOf l)]] w fun e w' => e = .returned (.int .i64 (Qm.twiceOf l)) ∧ Wd gg gl i g m c (Qm.twiceOf l) X G w' :=
  (keepTwice_any g m c _ l hn h0 hs hn2 w (hP.on h.2.2.1 (by rw [hgg]; exact hP.1))).mono fun _ _ ⟨h1, h2⟩ => ⟨h1, h.on hg h2⟩
/-- What stands at the shape number i. -/
theorem Shown.at {f : Qm.Sd → Qm.Sd} {al : Option Addr} {cl n : Nat} {L : List (Value × (Qm.Sd × Nat))} {X : World} (h : Shown f (.slice al n cl) L X) {R : List (Qm.Sd × Nat)} (hR : R = L.map (·.2)) {gl : Nat} (hc : ∀ j u, (shpV f L)[j]? = some u → X.cell? ⟨gl, j, none⟩ = some u) {i : Nat} (hi : i < R.length) :
    ∃ g c, 0 < R[i].2 ∧ PtsAt g (Qm.ptsOf f R[i]) X ∧ X.cell? ⟨gl, i * 2, none⟩ = some (.slice (some ⟨g, 0, none⟩) R[i].2 c) ∧ X.cell? ⟨gl, i * 2 + 1, none⟩ = some (.int .i64 (Qm.twiceOf (Qm.ptsOf f R[i]))) := by
  subst hR
  have hi' : i < L.length := by simpa using hi
  obtain ⟨g, c, e, h0, hp⟩ := h.pts L[i] (List.getElem_mem hi')
  have s := shpV_at f L i hi'
  rw [e] at s
  refine ⟨g, c, ?_⟩
  simp only [List.getElem_map]
  exact ⟨h0, hp, hc _ _ s.1, hc _ _ s.2⟩

/-- .. and beside it the shape ahead of it, and both first points. -/
def Wp (gg gl j i g m c g' m' c' : Nat) (tw xa ya xb yb : Int) (X : World) (G : Nat → Bool) (w : World) : Prop :=
  w.cell? ⟨gl, j * 2, none⟩ = some (.slice (some ⟨g', 0, none⟩) m' c') ∧ w.cell? ⟨g', 0, none⟩ = some (.int .i64 xa) ∧ w.cell? ⟨g', 1, none⟩ = some (.int .i64 ya) ∧ w.cell? ⟨g, 0, none⟩ = some (.int .i64 xb) ∧ w.cell? ⟨g, 1, none⟩ = some (.int .i64 yb) ∧ w.cell? ⟨gl, i * 2, none⟩ = some (.slice (some ⟨g, 0, none⟩) m c) ∧ w.cell? ⟨gl, i * 2 + 1, none⟩ = some (.int .i64 tw) ∧ Below gg X w ∧ GoneAt gg 4356 G w
theorem Wp.mk' {gg gl j i g m c g' m' c' : Nat} {tw : Int} {X : World} {G : Nat → Bool} {w : World} {l l' : List (Int × Int)} (h : Wd gg gl i g m c tw X G w) (hgl : gl < gg) (hX : gg = X.heap.size) (hc : X.cell? ⟨gl, j * 2, none⟩ = some (.slice (some ⟨g', 0, none⟩) m' c')) (hl : PtsAt g l X) (hl' : PtsAt g' l' X) (h0 : 0 < l.length) (h0' : 0 < l'.length) :
    Wp gg gl j i g m c g' m' c' tw (l'.getD 0 (0, 0)).1 (l'.getD 0 (0, 0)).2 (l.getD 0 (0, 0)).1 (l.getD 0 (0, 0)).2 X G w := by
  have b := h.2.2.1
  have z := hl.1
  have z' := hl'.1
  have p := (hl.on b (by omega)).2 0 h0
  have p' := (hl'.on b (by omega)).2 0 h0'
  exact ⟨(b.cell (p := ⟨gl, j * 2, none⟩) hgl).trans hc, p'.1, p'.2, p.1, p.2, h⟩
theorem Wp.wd {gg gl j i g m c g' m' c' : Nat} {tw xa ya xb yb : Int} {X : World} {G : Nat → Bool} {w : World} (h : Wp gg gl j i g m c g' m' c' tw xa ya xb yb X G w) : Wd gg gl i g m c tw X G w := h.2.2.2.2.2
theorem Wp.on {gg gl j i g m c g' m' c' : Nat} {tw xa ya xb yb : Int} {X : World} {G : Nat → Bool} {w w' : World} (h : Wp gg gl j i g m c g' m' c' tw xa ya xb yb X G w) (hgl : gl < gg) (hg : g < gg) (hg' : g' < gg) (hb : Below w.heap.size w w') : Wp gg gl j i g m c g' m' c' tw xa ya xb yb X G w' := by
  have z := h.wd.2.2.2.1
  obtain ⟨h1, h2, h3, h4, h5, h6⟩ := h
  exact ⟨(hb.cell (p := ⟨gl, j * 2, none⟩) (show gl < _ by omega)).trans h1, (hb.cell (p := ⟨g', 0, none⟩) (show g' < _ by omega)).trans h2, (hb.cell (p := ⟨g', 1, none⟩) (show g' < _ by omega)).trans h3, (hb.cell (p := ⟨g, 0, none⟩) (show g < _ by omega)).trans h4, (hb.cell (p := ⟨g, 1, none⟩) (show g < _ by omega)).trans h5, Wd.on h6 hgl hb⟩
theorem Wp.drew {gg gl j i g m c g' m' c' : Nat} {tw xa ya xb yb : Int} {X : World} {G : Nat → Bool} {w : World} (h : Wp gg gl j i g m c g' m' c' tw xa ya xb yb X G w) (hgl : gl < gg) (hg : g < gg) (hg' : g' < gg) : Wp gg gl j i g m c g' m' c' tw xa ya xb yb X G w.drew := h.on hgl hg hg' ⟨rfl, rfl, rfl, Nat.le_refl _, fun _ _ => rfl⟩
theorem before_wp {gg gl j i g m c g' m' c' : Nat} {tw xa ya xb yb : Int} {X : World} {G : Nat → Bool} {w : World} (h : Wp gg gl j i g m c g' m' c' tw xa ya xb yb X G w) (hgl : gl < gg) (hg : g < gg) (hg' : g' < gg) (hlt : ya < yb ∨ (ya = yb ∧ xa < xb)) :
    Calls Try.prog 18 #[.agg #[.int .i64 xa, .int .i64 ya], .agg #[.int .i64 xb, .int .i64 yb]] w fun e w' => e = .returned (.bool true) ∧ Wp gg gl j i g m c g' m' c' tw xa ya xb yb X G w' :=
  (before_any xa ya xb yb w).mono fun _ _ ⟨h1, h2⟩ => ⟨by rw [h1, decide_eq_true hlt], h.on hgl hg hg' (by rw [h2]; exact ((Below.refl _ _).alloc (Nat.le_refl _) _).alloc (by simp) _)⟩
/-- In its inner loop: the two points of a line, in boxes. -/
def Wq (gg gl i g m c b : Nat) (pa pb qa qb xb yb : Int) (X : World) (G : Nat → Bool) (w : World) : Prop :=
  w.cell? ⟨b, 0, none⟩ = some (.int .i64 pa) ∧ w.cell? ⟨b, 1, none⟩ = some (.int .i64 pb) ∧ w.cell? ⟨b + 1, 0, none⟩ = some (.int .i64 qa) ∧ w.cell? ⟨b + 1, 1, none⟩ = some (.int .i64 qb) ∧ w.cell? ⟨gl, i * 2, none⟩ = some (.slice (some ⟨g, 0, none⟩) m c) ∧ w.cell? ⟨g, 0, none⟩ = some (.int .i64 xb) ∧ w.cell? ⟨g, 1, none⟩ = some (.int .i64 yb) ∧ b + 1 < w.heap.size ∧ Below gg X w ∧ GoneAt gg 4356 G w
theorem Wq.on {gg gl i g m c b : Nat} {pa pb qa qb xb yb : Int} {X : World} {G : Nat → Bool} {w w' : World} (h : Wq gg gl i g m c b pa pb qa qb xb yb X G w) (hgl : gl < gg) (hg : g < gg) (hb : Below w.heap.size w w') : Wq gg gl i g m c b pa pb qa qb xb yb X G w' := by
  obtain ⟨h1, h2, h3, h4, h5, h6, h7, h8, h9, h10⟩ := h
  have z := h10.1
  have zz := hb.size
  exact ⟨(hb.cell (p := ⟨b, 0, none⟩) (show b < _ by omega)).trans h1, (hb.cell (p := ⟨b, 1, none⟩) (show b < _ by omega)).trans h2, (hb.cell (p := ⟨b + 1, 0, none⟩) (show b + 1 < _ by omega)).trans h3, (hb.cell (p := ⟨b + 1, 1, none⟩) (show b + 1 < _ by omega)).trans h4, (hb.cell (p := ⟨gl, i * 2, none⟩) (show gl < _ by omega)).trans h5, (hb.cell (p := ⟨g, 0, none⟩) (show g < _ by omega)).trans h6, (hb.cell (p := ⟨g, 1, none⟩) (show g < _ by omega)).trans h7, by omega, h9.trans (hb.mono (by omega)), h10.on hb h10.1⟩
theorem Wq.drew {gg gl i g m c b : Nat} {pa pb qa qb xb yb : Int} {X : World} {G : Nat → Bool} {w : World} (h : Wq gg gl i g m c b pa pb qa qb xb yb X G w) (hgl : gl < gg) (hg : g < gg) : Wq gg gl i g m c b pa pb qa qb xb yb X G w.drew := h.on hgl hg ⟨rfl, rfl, rfl, Nat.le_refl _, fun _ _ => rfl⟩
theorem Wq.new {gg gl i g m c : Nat} {pa pb qa qb xb yb : Int} {X : World} {G : Nat → Bool} {w : World} (hgl : gl < gg) (hg : g < gg) (t : TypeId) (h5 : w.cell? ⟨gl, i * 2, none⟩ = some (.slice (some ⟨g, 0, none⟩) m c)) (h6 : w.cell? ⟨g, 0, none⟩ = some (.int .i64 xb)) (h7 : w.cell? ⟨g, 1, none⟩ = some (.int .i64 yb)) (h9 : Below gg X w) (h10 : GoneAt gg 4356 G w) :
    Wq gg gl i g m c w.heap.size pa pb qa qb xb yb X G ((w.alloc (.cells #[.int .i64 pa, .int .i64 pb] t)).alloc (.cells #[.int .i64 qa, .int .i64 qb] t)) := by
  have z := h10.1
  have hb : Below w.heap.size w ((w.alloc (.cells #[.int .i64 pa, .int .i64 pb] t)).alloc (.cells #[.int .i64 qa, .int .i64 qb] t)) := ((Below.refl _ _).alloc (Nat.le_refl _) _).alloc (by simp) _
  exact ⟨by simp, by simp, by simp, by simp, (hb.cell (p := ⟨gl, i * 2, none⟩) (show gl < _ by omega)).trans h5, (hb.cell (p := ⟨g, 0, none⟩) (show g < _ by omega)).trans h6, (hb.cell (p := ⟨g, 1, none⟩) (show g < _ by omega)).trans h7, by simp, h9.trans (hb.mono (by omega)), h10.on hb h10.1⟩
theorem before_wq {gg gl i g m c b : Nat} {pa pb qa qb xb yb : Int} {X : World} {G : Nat → Bool} {w : World} (h : Wq gg gl i g m c b pa pb qa qb xb yb X G w) (hgl : gl < gg) (hg : g < gg) (hn : decide (pb < yb ∨ (pb = yb ∧ pa < xb)) = false) :
    Calls Try.prog 18 #[.agg #[.int .i64 pa, .int .i64 pb], .agg #[.int .i64 xb, .int .i64 yb]] w fun e w' => e = .returned (.bool false) ∧ Wq gg gl i g m c b pa pb qa qb xb yb X G w' :=
  (before_any pa pb xb yb w).mono fun _ _ ⟨h1, h2⟩ => ⟨by rw [h1, hn], h.on hgl hg (by rw [h2]; exact ((Below.refl _ _).alloc (Nat.le_refl _) _).alloc (by simp) _)⟩
theorem first_at {f : Qm.Sd → Qm.Sd} {c : Qm.Sd × Nat} (h : 0 < c.2) : (Qm.ptsOf f c).getD 0 (0, 0) = (c.1.1, c.1.2.1) := Qm.ptsOf_getD f c 0 h
end Go.Proofs.Ytljfiefobnncaaa

/- outlinekeep: Walked. -/
namespace Go.Proofs.Ytljfiefobnncaaa
open Go.RowKit
attribute [local go_sem ↓] Go.wp_at_zero Go.wp_at_succ

set_option maxRecDepth 4000 in
set_option maxHeartbeats 4000000 in
theorem walkedKeep_any (ao : Option Addr) (len cap : Nat) (a h p : Int) (draws : ByteArray) (w : World) (hraw : RawIs ao len w) (hlen : len ≤ 140737488355328) (a1 : -9223372036854775808 ≤ a) (a2 : a ≤ 9223372036854775807) (h1 : -9223372036854775808 ≤ h) (h2 : h ≤ 9223372036854775807) (p1 : -9223372036854775808 ≤ p) (p2 : p ≤ 9223372036854775807) :
    Calls Try.prog 4 #[.slice ao len cap, .int .i64 a, .int .i64 h, .int .i64 p, .string draws] w fun e w' => e = .returned (.bool true) ∧ Below w.heap.size w w' := by
  obtain ⟨ib, hib, hzb0, hzb1, hzb2⟩ := info_parts infoBool
  have RW := hid hraw
  clear hraw
  go_enter Try.func4, Try.ntmps4
  go_wp2_with fail
  refine (works_any _).mono ?_
  rintro e w1 ⟨rfl, hb⟩
  have B1 := hid (show Below w.heap.size w w1 from hb)
  clear hb
  go_wp2_with fail
  refine (built_core ao len cap a h _ (RW.out.on B1.out) hlen a1 a2 h1 h2).mono ?_
  rintro e w2 ⟨⟨W, H, l, rfl, W1, W2, H1, H2, hl, hall⟩, hb⟩
  have MAY := hid (fun (pol : Nat) (hp : pol ≤ 3) => show mayB W H (⟨l.toArray⟩ : ByteArray).data.toList pol 0 = true from may_of (good_of W1 W2 H1 H2 hl hall) (by omega) (by omega) (by omega) (by omega))
  have HL := hid (show (⟨l.toArray⟩ : ByteArray).size = W * H from hl)
  have B2 := hid (show Below w.heap.size w w2 from B1.out.trans (hb.mono B1.out.size))
  clear hall hl hb RW
  obtain ⟨s, hs⟩ : ∃ s : ByteArray, s = ⟨l.toArray⟩ := ⟨_, rfl⟩
  rw [← hs] at MAY HL ⊢
  clear hs
  go_wp2_with fail
  go_region_held3 (fun w' => w'.cell? ⟨w2.heap.size, 0, none⟩ = some (.int .i64 W) ∧ w'.cell? ⟨w2.heap.size, 1, none⟩ = some (.int .i64 H) ∧ w'.cell? ⟨w2.heap.size, 2, none⟩ = some (.string s) ∧ Below w2.heap.size w2 w' ∧ w2.heap.size < w'.heap.size)
    (first | exact inb_new w2 W H s 23 | exact (by assumption : Inb w2.heap.size W H s w2 _))
    (first | (go_at_call 16; refine (options_inb (inb_new w2 W H s 23) p draws p1 p2).mono ?_; rintro e w3 ⟨⟨pol, rfl, hpol⟩, hI3⟩) | (go_at_call 15; refine (cycles_inb (by assumption : Inb w2.heap.size W H s w2 _) pol draws 0 (MAY.out pol hpol) W2 H2 HL.out hpol).mono ?_; rintro e w4 ⟨vl, rfl, hF, hI4⟩))
  obtain ⟨L, hR, hRow, hLn⟩ := hF
  have SH := hid (hRow.shown (fun q hq => (hR.1 q.2 (List.mem_map_of_mem hq)).1.2.1))
  have BM := hid hI4.bmp
  have B4 := hid (show Below w.heap.size w w4 from B2.out.trans (hI4.2.2.2.1.mono B2.out.size))
  have k4 : w2.heap.size < w4.heap.size := hI4.2.2.2.2
  obtain ⟨al, cl, rfl, hrow⟩ := SH.out.row
  have RES := hid hR
  have HROW := hid hrow
  clear hR hRow hrow hI3 hI4
  obtain ⟨R, hRR⟩ : ∃ R, R = L.map (·.2) := ⟨_, rfl⟩
  rw [← hRR] at RES
  have RR := hid hRR
  clear hRR
  have RL := hid (show R.length = L.length by rw [RR.out, List.length_map])
  have PIC := hid (Qm.pic_of W H s.data.toList W2 H2)
  have TB := hid (show ∀ i, Qm.totS R i ≤ 2178 from fun i => by
    have a := Qm.totS_mono R i
    have b := Qm.totS_all (fB W H s pol draws) R
    have c := Qm.Res.count RES.out PIC.out
    have d := Qm.bx_cS (Pm.blackB W H s.data.toList) (W + 1) (H + 1) (by omega) (by omega)
    have e : (Qm.alS (fB W H s pol draws) R).length = (Qm.alS (Qm.nx (Pm.blackB W H s.data.toList) (Qm.jnB W H s.data.toList pol draws.data.toList)) R).length := rfl
    omega)
  have SM := hid (show ∀ c ∈ R, Qm.Small (Qm.ptsOf (fB W H s pol draws) c) from fun c hc => small_pts W2 H2 (RES.out.1 c hc).1)
  have AB := hid (show ∀ i, i ≤ L.length → -1024 * (Qm.totS R i : Int) ≤ Qm.areaS (fB W H s pol draws) R i ∧ Qm.areaS (fB W H s pol draws) R i ≤ 1024 * (Qm.totS R i : Int) from fun i hi => Qm.areaS_small _ R SM.out i (by rw [RL.out]; exact hi))
  obtain ⟨n, hn⟩ : ∃ n, n = L.length := ⟨_, rfl⟩
  rw [← hn] at hLn HROW RL AB ⊢
  have HN := hid hn
  clear hn
  go_wp2_with (first
    | (at_make; refine wpList_make_full _ rfl _ _ 40 rfl w4.heap.size 4 ib (.bool false) 1 Try.underlying40 hib hzb0 hzb1 .i64 .i64 _ _ 4356 rfl rfl rfl rfl (by rw [hzb2]; omega) (by unfold maxLen; omega) (Nat.le_refl _) ?_))
  intro w5 o5 g5
  have b5 : Below w4.heap.size w4 w5 := ⟨g5.os, g5.tape, g5.output, g5.size, fun k hk => g5.block k hk (by simp)⟩
  have z5 : w4.heap.size < w5.heap.size := by have := (o5.lt w4.heap.size rfl).2; exact this
  have GA := hid (show GoneAt w4.heap.size 4356 (fun _ => false) w5 by
    refine ⟨z5, fun j hj => ⟨?_, ?_⟩⟩
    · have := o5.cells (g := w4.heap.size) rfl j (.bool false) (by
        rw [toList_madeCells_one, List.getElem?_replicate, if_pos hj])
      rwa [add_zero_at] at this
    · rcases o5.2 with ⟨h1, _⟩ | ⟨g, cap, cur, h1, _, h2, _⟩
      · cases h1
      · injection h1 with h1 _ _; injection h1 with h1; injection h1 with h1 _ _
        subst h1
        simp [World.frozen?, h2])
  have B5 := hid b5
  obtain ⟨gg, hgg⟩ : ∃ gg, gg = w4.heap.size := ⟨_, rfl⟩
  rw [← hgg] at GA B5 k4 ⊢
  have HG := hid hgg
  clear hgg b5 z5 o5 g5
  go_wp2_with fail
  go_loopw [16, 17, 18] (fun nv av iv wr => ∃ (i : Nat) (G : Nat → Bool), i ≤ n ∧ iv = .int .i64 i ∧ nv = .int .i64 (Qm.totS R i : Nat) ∧ av = .int .i64 (Qm.areaS (fB W H s pol draws) R i) ∧ Qm.Rep (Pm.blackB W H s.data.toList) (fB W H s pol draws) G (R.take i) ∧ GoneAt gg 4356 G wr ∧ Below gg w4 wr) (fun _ _ i _ => n - (intOf i).toNat)
  case atStart => exact ⟨0, fun _ => false, by omega, rfl, rfl, rfl, fun t ht => by simp [Qm.Tk], GA.out, B5.out⟩
  case round =>
    obtain ⟨i, G, hin, rfl, rfl, rfl, hrep, hgone, hbl⟩ := hrel
    have tb := TB.out i
    have ab := AB.out i hin
    by_cases hlt : i < n
    · obtain ⟨gl, rfl, hgl, hc⟩ := HROW.out.resolve_left (by omega)
      have hlt' : (i : Int) < (n : Nat) := by omega
      have hlg : gl < gg := by rw [HG.out]; exact hgl
      have hiR : i < R.length := by rw [RL.out]; exact hlt
      obtain ⟨g, c, m0, hpt, c0, c1⟩ := SH.out.at RR.out hc hiR
      have can := RES.out.at hiR
      have HPV := hid (show 0 < i → ∃ g' c', 0 < R[i - 1].2 ∧ PtsAt g' (Qm.ptsOf (fB W H s pol draws) R[i - 1]) w4 ∧ w4.cell? ⟨gl, (i - 1) * 2, none⟩ = some (.slice (some ⟨g', 0, none⟩) R[i - 1].2 c') ∧ Qm.key R[i - 1].1 < Qm.key R[i].1 from fun hi0 => by
        obtain ⟨g', c', a1, a2, a3, _⟩ := SH.out.at RR.out hc (i := i - 1) (by omega)
        exact ⟨g', c', a1, a2, a3, List.pairwise_iff_getElem.1 RES.out.2.1 (i - 1) i (by omega) hiR (by omega)⟩)
      have FR := hid (fun m => RES.out.fresh hiR m)
      have TS := hid (Qm.totS_succ hiR)
      have AS := hid (Qm.areaS_succ (fB W H s pol draws) hiR)
      have TK := hid (Qm.take_next hiR)
      have sm := SM.out R[i] (List.getElem_mem hiR)
      obtain ⟨cy, hcy⟩ : ∃ cy, cy = R[i] := ⟨_, rfl⟩
      rw [← hcy] at m0 hpt c0 c1 can HPV FR TS AS TK sm
      clear hcy
      have hd4 := can.1.four
      have hle := cyc_le W2 H2 can.1
      have htn := can.1.twice_ne PIC.out
      obtain ⟨m, hm⟩ : ∃ m, m = cy.2 := ⟨_, rfl⟩
      rw [← hm] at m0 c0 hd4 hle TS
      obtain ⟨ps, hps⟩ : ∃ ps, ps = Qm.ptsOf (fB W H s pol draws) cy := ⟨_, rfl⟩
      have htn2 : Qm.twiceOf ps ≠ 0 := by
        rw [hps]
        show Qm.twiceOf (Qm.ptsOf (Qm.nx (Pm.blackB W H s.data.toList) (Qm.jnB W H s.data.toList pol draws.data.toList)) cy) ≠ 0
        omega
      rw [← hps] at hpt c1 sm AS
      have hlp : m = ps.length := by rw [hps, hm, Qm.ptsOf_len]
      have tws := Qm.fsum_small sm ps.length
      rw [← Qm.twiceOf_fsum, ← hlp] at tws
      have WD0 : Wd gg gl i g m c (Qm.twiceOf ps) w4 G wr := ⟨(hbl.cell (p := ⟨gl, i * 2, none⟩) hlg).trans c0, (hbl.cell (p := ⟨gl, i * 2 + 1, none⟩) hlg).trans c1, hbl, hgone⟩
      have WT := hid (fun (wx : World) (hx : Wd gg gl i g m c (Qm.twiceOf ps) w4 G wx) => twice_wd ps hx hlg hlp m0 sm hle hpt HG.out)
      obtain ⟨tw, htw⟩ : ∃ tw, tw = Qm.twiceOf ps := ⟨_, rfl⟩
      rw [← htw] at WD0 WT htn2 tws AS c1
      have HPT := hid hpt
      have HPS := hid hps
      have HM := hid hm
      have HTW := hid htw
      have HLP := hid hlp
      have CAN := hid can
      have GON := hid hgone
      have BLO := hid hbl
      have REP := hid hrep
      have W0 := hid WD0
      clear hpt hps hm htw hlp can hgone hbl hrep c0 c1 htn sm hc
      obtain ⟨d0, d1, -, -⟩ := WD0
      have dm : decide ((m : Int) < 4) = false := by simp; omega
      have dt : (tw == 0) = false := by simpa using htn2
      go_wp2_with fail
      go_region_held3 (fun w' => w'.cell? ⟨gl, i * 2, none⟩ = some (.slice (some ⟨g, 0, none⟩) m c) ∧ w'.cell? ⟨gl, i * 2 + 1, none⟩ = some (.int .i64 tw) ∧ Below gg w4 w' ∧ GoneAt gg 4356 G w')
        (first | exact W0.out.drew hlg | exact (by assumption : Wd gg gl i g m c tw w4 G _))
        (first | (go_at_call 17; refine (WT.out _ (W0.out.drew hlg)).mono ?_; rintro e w6 ⟨rfl, hW6⟩))
      have W6 := hid hW6
      clear d0 d1 dm dt
      obtain ⟨d0, d1, -, -⟩ := hW6
      have hgg1 : g < gg := by rw [HG.out]; exact HPT.out.1
      have FST := hid (first_at (f := fB W H s pol draws) (c := cy) (by rw [← HM.out]; exact m0))
      rcases Nat.eq_zero_or_pos i with hi0 | hi0
      all_goals first
        | (
            have _hi : i = 0 := hi0
            clear _hi
            have hi0' : ¬ (0 : Int) < (i : Nat) := by omega
            have hib : decide ((0 : Int) < (i : Nat)) = false := by simpa using hi0'
            have hib2 : decide (0 < i) = false := by simp; omega
            have hib3 : ¬ 0 < i := by omega
            clear hi0
            go_wp2_with fail
            go_quiet (fail)
            obtain ⟨w7, e7⟩ : ∃ w7, w7 = w6.drewN nq := ⟨_, rfl⟩
            have W7 := hid (show Wd gg gl i g m c tw w4 G w7 from W6.out.on hlg (by rw [e7]; exact ⟨rfl, rfl, rfl, Nat.le_refl _, fun _ _ => rfl⟩))
            rw [← e7]
            clear e7 d0 d1 hib hib2 hib3 hi0')
        | (
            obtain ⟨j, hj⟩ : ∃ j, i = j + 1 := ⟨i - 1, by omega⟩
            obtain ⟨g', c', q0, hpt', cc, hk⟩ := HPV.out hi0
            have ej : i - 1 = j := by omega
            simp only [ej] at q0 hpt' cc hk
            have ej2 : (i : Int) - 1 = (j : Nat) := by omega
            have ej3 : (0 : Int) ≤ (j : Nat) := by omega
            have ej4 : (j : Int) < (n : Nat) := by omega
            have ej5 : (0 : Int) < (i : Nat) := by omega
            have ej6 : IntKind.i64.wrap ((i : Int) - 1) = (j : Nat) := by rw [IntKind.wrap_i64]; omega
            have ej7 : IntKind.i64.wrap ((j : Nat) : Int) = (j : Nat) := by rw [IntKind.wrap_i64]; omega
            have ej8 : j < n := by omega
            have ej9 : ¬ (n : Int) ≤ (j : Nat) := by omega
            have HJ := hid hj
            have hg1' : g' < gg := by rw [HG.out]; exact hpt'.1
            have WP := Wp.mk' W6.out hlg HG.out cc HPT.out hpt' (by rw [← HLP.out]; exact m0) (by rw [Qm.ptsOf_len]; exact q0)
            have fs := FST.out
            rw [← HPS.out] at fs
            rw [fs, first_at q0] at WP
            have s1 := Qm.side_in PIC.out CAN.out.1.1
            have s2 := Qm.side_in PIC.out (RES.out.at (i := j) (by omega)).1.1
            simp only [Qm.key] at hk
            have hlt2 : R[j].1.2.1 < cy.1.2.1 ∨ (R[j].1.2.1 = cy.1.2.1 ∧ R[j].1.1 < cy.1.1) := by omega
            obtain ⟨xa, hxa⟩ : ∃ x, x = R[j].1.1 := ⟨_, rfl⟩
            obtain ⟨ya, hya⟩ : ∃ x, x = R[j].1.2.1 := ⟨_, rfl⟩
            obtain ⟨xb, hxb⟩ : ∃ x, x = cy.1.1 := ⟨_, rfl⟩
            obtain ⟨yb, hyb⟩ : ∃ x, x = cy.1.2.1 := ⟨_, rfl⟩
            obtain ⟨m', hm'⟩ : ∃ x, x = R[j].2 := ⟨_, rfl⟩
            simp only [← hxa, ← hya, ← hxb, ← hyb, ← hm'] at WP hlt2 q0
            have WQ := hid WP
            have q0' : (0 : Int) < (m' : Nat) := by omega
            have m0' : (0 : Int) < (m : Nat) := by omega
            clear hpt' cc hk ej s1 s2 fs hxa hya hxb hyb hm' hj
            obtain ⟨f0, f1, f2, f3, f4, -⟩ := WP
            go_wp2_with fail
            go_region_held3 (fun w' => w'.cell? ⟨gl, j * 2, none⟩ = some (.slice (some ⟨g', 0, none⟩) m' c') ∧ w'.cell? ⟨g', 0, none⟩ = some (.int .i64 xa) ∧ w'.cell? ⟨g', 1, none⟩ = some (.int .i64 ya) ∧ w'.cell? ⟨g, 0, none⟩ = some (.int .i64 xb) ∧ w'.cell? ⟨g, 1, none⟩ = some (.int .i64 yb) ∧ w'.cell? ⟨gl, i * 2, none⟩ = some (.slice (some ⟨g, 0, none⟩) m c) ∧ w'.cell? ⟨gl, i * 2 + 1, none⟩ = some (.int .i64 tw) ∧ Below gg w4 w' ∧ GoneAt gg 4356 G w')
              (first | exact WQ.out.drew hlg hgg1 hg1' | exact (by assumption : Wp gg gl j i g m c g' m' c' tw xa ya xb yb w4 G _))
              (first | (go_at_call 18; refine (before_wp (WQ.out.drew hlg hgg1 hg1') hlg hgg1 hg1' hlt2).mono ?_; rintro e w7 ⟨rfl, hW7⟩))
            have W7 := hid (show Wd gg gl i g m c tw w4 G w7 from hW7.wd)
            clear d0 d1 f0 f1 f2 f3 f4 ej2 ej3 ej4 ej5 ej6 ej7 ej8 ej9 hW7)
      all_goals (
        obtain ⟨d0, d1, hb7, hg7⟩ := W7.out
        have B7 := hid hb7
        have G7 := hid hg7
        clear hb7 hg7
        go_wp2_with fail
        go_loopw [16, 19] (fun nv kv wr => ∃ (k : Nat) (G' : Nat → Bool), k ≤ m ∧ kv = .int .i64 k ∧ nv = .int .i64 ((Qm.totS R i + k : Nat) : Int) ∧ Qm.RepM (Pm.blackB W H s.data.toList) (fB W H s pol draws) G' (R.take i) cy.1 k ∧ GoneAt gg 4356 G' wr ∧ Below gg w4 wr) (fun _ k _ => m - (intOf k).toNat)
        case atStart => exact ⟨0, G, by omega, rfl, rfl, REP.out.zero cy.1, G7.out, B7.out⟩
        case round =>
          clear d0 d1
          obtain ⟨k, G', hkm, rfl, rfl, hrep, hgone, hbl⟩ := hrel
          have tb2 := TB.out (i + 1)
          rw [TS.out] at tb2
          have WK : Wd gg gl i g m c tw w4 G' wr := ⟨(hbl.cell (p := ⟨gl, i * 2, none⟩) hlg).trans ((W0.out.2.2.1.cell (p := ⟨gl, i * 2, none⟩) hlg).symm.trans W0.out.1), (hbl.cell (p := ⟨gl, i * 2 + 1, none⟩) hlg).trans ((W0.out.2.2.1.cell (p := ⟨gl, i * 2 + 1, none⟩) hlg).symm.trans W0.out.2.1), hbl, hgone⟩
          have WKH := hid WK
          have REP2 := hid hrep
          clear hrep hgone hbl
          obtain ⟨d0, d1, -, -⟩ := WK
          by_cases hk : k < m
          · have hk' : (k : Int) < (m : Nat) := by omega
            have ht := (Qm.step PIC.out (Qm.jnB W H s.data.toList pol draws.data.toList)).its CAN.out.1.1 k
            obtain ⟨t, htt⟩ : ∃ t, t = Qm.it (fB W H s pol draws) k cy.1 := ⟨_, rfl⟩
            have htS : Qm.isS (Pm.blackB W H s.data.toList) t = true := by rw [htt]; exact ht
            have hend := CAN.out.step_end k
            have hpk : ps.getD k (0, 0) = Qm.fromP t := by rw [HPS.out, Qm.ptsOf_getD _ _ _ (by rw [← HM.out]; exact hk), htt]
            have hpk2 : ps.getD ((k + 1) % ps.length) (0, 0) = Qm.en t := by
              rw [HPS.out, Qm.ptsOf_len, Qm.ptsOf_getD _ _ _ (Nat.mod_lt _ (by rw [← HM.out]; exact m0)), htt]
              exact hend
            have ST := hid (fun W' (hW : Below gg w4 W') => step_any g m c k tw ps HLP.out hk hle W' (HPT.out.on hW hgg1))
            rw [hpk, hpk2] at ST
            have cod := Qm.code_in PIC.out htS
            have sin := Qm.side_in PIC.out htS
            have hi4 := Qm.isS_lt htS
            have nT : G' (Qm.codeS t).toNat = false := by
              cases hc : G' (Qm.codeS t).toNat with
              | false => rfl
              | true =>
                rcases (REP2.out t htS).1 hc with h1 | ⟨i', hi', e⟩
                · rw [htt] at h1; exact absurd h1 (FR.out k)
                · rw [htt] at e; exact absurd e.symm (CAN.out.1.2.2.2 i' k hi' (by rw [← HM.out]; exact hk))
            have nBf : ¬ (t.2.1 < cy.1.2.1 ∨ (t.2.1 = cy.1.2.1 ∧ t.1 < cy.1.1)) := by
              have := CAN.out.least k
              rw [← htt] at this
              simp only [Qm.key] at this
              have := Qm.side_in PIC.out CAN.out.1.1
              omega
            have HT := hid htt
            have IS := hid (fun W' => isSide_yes W H s t W2 H2 HL.out htS W')
            have CD := hid (fun W' => code_any t hi4 sin.1 (by omega) sin.2.2.1 (by omega) W')
            have RDX := hid (show ∀ wx, Below gg w4 wx → wx.cell? ⟨gl, i * 2, none⟩ = some (.slice (some ⟨g, 0, none⟩) m c) ∧ wx.cell? ⟨g, 0, none⟩ = some (.int .i64 cy.1.1) ∧ wx.cell? ⟨g, 1, none⟩ = some (.int .i64 cy.1.2.1) ∧ Bmp w2.heap.size W H s wx from fun wx hx => by
              have q := (HPT.out.on hx hgg1).2 0 (by rw [← HLP.out]; exact m0)
              have fs := FST.out
              rw [← HPS.out] at fs
              rw [fs] at q
              exact ⟨(hx.cell (p := ⟨gl, i * 2, none⟩) hlg).trans ((W0.out.2.2.1.cell (p := ⟨gl, i * 2, none⟩) hlg).symm.trans W0.out.1), q.1, q.2, BM.out.on hx k4⟩)
            obtain ⟨xb, hxb⟩ : ∃ x, x = cy.1.1 := ⟨_, rfl⟩
            obtain ⟨yb, hyb⟩ : ∃ x, x = cy.1.2.1 := ⟨_, rfl⟩
            obtain ⟨cd, hcd⟩ : ∃ cd : Nat, Qm.codeS t = (cd : Int) := ⟨(Qm.codeS t).toNat, by omega⟩
            rw [← hxb, ← hyb] at RDX nBf
            rw [hcd] at CD cod
            have hcn : (Qm.codeS t).toNat = cd := by omega
            rw [hcn] at nT
            have HCN := hid hcn
            obtain ⟨⟨pa, pb⟩, hpp⟩ : ∃ p, Qm.fromP t = p := ⟨_, rfl⟩
            obtain ⟨⟨qa, qb⟩, hqq⟩ : ∃ p, Qm.en t = p := ⟨_, rfl⟩
            rw [hpp, hqq] at ST IS CD
            have nB2 : decide (pb < yb ∨ (pb = yb ∧ pa < xb)) = false := by
              have e1 : t.1 = pa := congrArg Prod.fst hpp
              have e2 : t.2.1 = pb := congrArg Prod.snd hpp
              rw [e1, e2] at nBf
              simpa using nBf
            dsimp only at ST IS CD
            have HTS := hid htS
            have cod2 := cod.2
            clear ht hend hpk hpk2 htt hpp hqq hcd hcn hxb hyb nBf htS sin cod
            go_wp2_with fail
            refine (ST.out _ WKH.out.2.2.1).mono ?_
            rintro e w8 ⟨rfl, hb8⟩
            have W8 := hid (WKH.out.on hlg hb8)
            clear hb8 d0 d1
            obtain ⟨r0, r1, r2, rz, r3, r4, r5⟩ := RDX.out w8 W8.out.2.2.1
            have WQ8 := hid (Wq.new (pa := pa) (pb := pb) (qa := qa) (qb := qb) hlg hgg1 47 r0 r1 r2 W8.out.2.2.1 W8.out.2.2.2)
            go_wp2_with fail
            refine (IS.out _).mono ?_
            rintro e w9 ⟨rfl, hb9⟩
            have WQ9 := hid (WQ8.out.on hlg hgg1 hb9)
            clear hb9 r0 r1 r2 r3 r4 r5 rz
            obtain ⟨b8, hb8⟩ : ∃ b8, b8 = w8.heap.size := ⟨_, rfl⟩
            rw [← hb8] at WQ9
            simp only [← hb8]
            clear hb8 WQ8
            obtain ⟨y0, y1, y2, y3, y4, y5, y6, -⟩ := WQ9.out
            have m0' : (0 : Int) < (m : Nat) := by omega
            go_wp2_with fail
            go_region_held3 (fun w' => w'.cell? ⟨b8, 0, none⟩ = some (.int .i64 pa) ∧ w'.cell? ⟨b8, 1, none⟩ = some (.int .i64 pb) ∧ w'.cell? ⟨b8 + 1, 0, none⟩ = some (.int .i64 qa) ∧ w'.cell? ⟨b8 + 1, 1, none⟩ = some (.int .i64 qb) ∧ w'.cell? ⟨gl, i * 2, none⟩ = some (.slice (some ⟨g, 0, none⟩) m c) ∧ w'.cell? ⟨g, 0, none⟩ = some (.int .i64 xb) ∧ w'.cell? ⟨g, 1, none⟩ = some (.int .i64 yb) ∧ b8 + 1 < w'.heap.size ∧ Below gg w4 w' ∧ GoneAt gg 4356 G' w')
              (first | exact WQ9.out.drew hlg hgg1 | exact (by assumption : Wq gg gl i g m c b8 pa pb qa qb xb yb w4 G' _))
              (first | (go_at_call 18; refine (before_wq (WQ9.out.drew hlg hgg1) hlg hgg1 nB2).mono ?_; rintro e w10 ⟨rfl, hW10⟩))
            have WQ10 := hid hW10
            clear y0 y1 y2 y3 y4 y5 y6
            obtain ⟨y0, y1, y2, y3, y4, y5, y6, -⟩ := hW10
            go_wp2_with fail
            refine (CD.out _).mono ?_
            rintro e w11 ⟨rfl, hb11⟩
            have WQ11 := WQ10.out.on hlg hgg1 hb11
            have BG := hid WQ11.2.2.2.2.2.2.2.2.1
            have GG := hid WQ11.2.2.2.2.2.2.2.2.2
            clear hb11 y0 y1 y2 y3 y4 y5 y6 WQ11
            obtain ⟨gc, gf⟩ := GG.out.2 cd (by omega)
            rw [nT] at gc
            have cd0 : (0 : Int) ≤ (cd : Nat) := by omega
            have gz := GG.out.1
            go_wp2
            go_roundw
            case rel =>
              refine ⟨k + 1, Qm.mark G' cd, by omega, by go_num, by go_num, ?_, GG.out.set cd, BG.out.setCell (Nat.le_refl _) _⟩
              have := REP2.out.succ PIC.out (by rw [← HT.out]; exact HTS.out)
              rw [← HT.out, HCN.out] at this
              exact this
            case measure => simp [intOf]; omega
          · have hk' : ¬ (k : Int) < (m : Nat) := by omega
            have hkm2 : k = m := by omega
            have HKM := hid hkm2
            have WKK := WKH.out
            clear hkm2
            go_wp2
            go_roundw
            case rel =>
              refine ⟨i + 1, G', by omega, by go_num, ?_, ?_, ?_, WKK.2.2.2, WKK.2.2.1⟩
              · rw [TS.out, HKM.out]
              · rw [AS.out]
              · rw [TK.out]
                have := REP2.out
                rw [HKM.out, HM.out] at this
                exact this.whole
            case measure => simp [intOf]; omega)
    · have hlt' : ¬ (i : Int) < (n : Nat) := by omega
      have hie : i = n := by omega
      have hsz : s.size ≤ 1024 := by rw [HL.out]; exact Nat.mul_le_mul W2 H2
      have EN := hid (show (Qm.totS R i : Int) = Qm.bx (W + 1) (H + 1) (Qm.cS (Pm.blackB W H s.data.toList)) by
        rw [hie, ← RL.out, Qm.totS_all (fB W H s pol draws) R]
        exact Qm.Res.count RES.out PIC.out)
      have EA := hid (show Qm.areaS (fB W H s pol draws) R i = 2 * Qm.sN s.size (fun i => if Pm.bitAt s.data.toList i = true then 1 else 0) by
        rw [hie, ← RL.out, Qm.areaS_all, HL.out, Nat.mul_comm W H, Qm.bits_rows W H s.data.toList]
        exact Qm.Res.area RES.out PIC.out)
      have BLO := hid hbl
      have GZ := hgone.1
      clear hbl hgone hrep hie
      obtain ⟨tn, htn⟩ : ∃ tn, tn = Qm.totS R i := ⟨_, rfl⟩
      obtain ⟨ta, hta⟩ : ∃ ta, ta = Qm.areaS (fB W H s pol draws) R i := ⟨_, rfl⟩
      rw [← htn] at EN tb ab ⊢
      rw [← hta] at EA ab ⊢
      clear htn hta
      go_wp2_with fail
      go_loopw [24, 25] (fun cv iv wr => ∃ q : Nat, q ≤ s.size ∧ iv = .int .i64 q ∧ cv = .int .i64 (Qm.sN q (fun i => if Pm.bitAt s.data.toList i = true then 1 else 0)) ∧ Below gg w4 wr ∧ gg < wr.heap.size) (fun _ q _ => s.size - (intOf q).toNat)
      case atStart => exact ⟨0, by omega, rfl, rfl, BLO.out, GZ⟩
      case round =>
        obtain ⟨q, hq, rfl, rfl, hbl, hgz⟩ := hrel
        have BL := hid hbl
        obtain ⟨rz, r3, r4, r5⟩ := BM.out.on hbl k4
        clear hbl
        have bn := Qm.sN_bound (n := q) (g := fun i => if Pm.bitAt s.data.toList i = true then 1 else 0) (m := 1) (fun i _ => by split <;> omega)
        by_cases hql : q < s.size
        · have hql' : (q : Int) < (s.size : Nat) := by omega
          have q0 : (0 : Int) ≤ (q : Nat) := by omega
          have ES := hid (show Qm.sN (q + 1) (fun i => if Pm.bitAt s.data.toList i = true then 1 else 0) = Qm.sN q (fun i => if Pm.bitAt s.data.toList i = true then 1 else 0) + (if Pm.bitAt s.data.toList q = true then 1 else 0) from rfl)
          obtain ⟨v, hv⟩ : ∃ v, v = Qm.sN q (fun i => if Pm.bitAt s.data.toList i = true then 1 else 0) := ⟨_, rfl⟩
          rw [← hv] at bn ES ⊢
          clear hv
          by_cases h49 : (s[q].toNat : Int) = 49
          · rw [Pm.bitAt_yes s q hql h49] at ES
            go_wp2
            go_roundw
            case rel => exact ⟨q + 1, by omega, by go_num, by rw [ES.out]; go_num, BL.out, hgz⟩
            case measure => simp [intOf]; omega
          · rw [Pm.bitAt_no s q hql h49] at ES
            have b0 : ((s[q].toNat : Int) == 49) = false := by simpa using h49
            go_wp2
            go_roundw
            case rel => exact ⟨q + 1, by omega, by go_num, by rw [ES.out]; simp, BL.out, hgz⟩
            case measure => simp [intOf]; omega
        · have hql' : ¬ (q : Int) < (s.size : Nat) := by omega
          have hqe : q = s.size := by omega
          subst hqe
          rw [EA.out]
          obtain ⟨v, hv⟩ : ∃ v, v = Qm.sN s.size (fun i => if Pm.bitAt s.data.toList i = true then 1 else 0) := ⟨_, rfl⟩
          rw [← hv] at bn ⊢
          clear hv
          have KS := hid (fun W' => keepSides_any W H s W' W2 H2 HL.out)
          rw [← EN.out] at KS
          go_wp2_with fail
          refine (KS.out _).mono ?_
          rintro e w12 ⟨rfl, hb12⟩
          have B12 := hid (show Below w.heap.size w w12 by
            have h1 := B4.out.size
            have h2 : w.heap.size ≤ gg := by rw [HG.out]; exact h1
            exact (B4.out.trans (BL.out.mono h2)).trans (hb12.mono (by omega)))
          clear hb12
          go_wp2
          go_ret
          exact ⟨rfl, B12.out⟩
end Go.Proofs.Ytljfiefobnncaaa

/- outlinekeep: traces; the polygons where there is no speckle. -/
namespace Go.Proofs.Ytljfiefobnncaaa
open Go.RowKit

namespace Qm
theorem bigB_zero {bl jn : Int → Int → Bool} {c : Sd × Nat} (h : Cyc (nx bl jn) (fun s => isS bl s = true) c.1 c.2) {W H : Nat} (hp : Pic bl W H) : bigB (nx bl jn) 0 c = true := by
  have := h.twice_ne hp
  unfold bigB absZ
  rw [decide_eq_true_eq]
  split <;> omega
theorem polys_zero {bl jn : Int → Int → Bool} {R : List (Sd × Nat)} (h : Res (nx bl jn) (fun s => isS bl s = true) key R) {W H : Nat} (hp : Pic bl W H) : polys (nx bl jn) 0 R = R.map fun c => cornL (ptsOf (nx bl jn) c) := by
  unfold polys
  rw [List.filter_eq_self.2 fun c hc => bigB_zero (h.1 c hc).1 hp]
end Qm

theorem polys_one : Qm.polys (fB 1 1 ⟨#[49]⟩ 0 ⟨#[]⟩) 0 [((0, 0, 0), 4)] = [[(0, 0), (0, 1), (1, 1), (1, 0)]] := by decide
theorem one_traced {vl : Value} {w w' : World} (h : TraceOut 1 1 ⟨#[49]⟩ 0 ⟨#[]⟩ 0 w vl w') : Below w.heap.size w w' ∧ ∃ gl cap g c, vl = .slice (some ⟨gl, 0, none⟩) 1 cap ∧ gl < w'.heap.size ∧ g < w'.heap.size ∧ w'.cell? ⟨gl, 0, none⟩ = some (.slice (some ⟨g, 0, none⟩) 4 c) ∧ w'.cell? ⟨gl, 1, none⟩ = some (.int .i64 2) := by
  obtain ⟨R, L, h1, h2, h3, _, h5⟩ := h
  refine ⟨h5, ?_⟩
  have e := h1.unique res_one
  subst e
  rw [polys_one] at h2
  obtain ⟨v, rfl⟩ : ∃ v, L = [(v, [(0, 0), (0, 1), (1, 1), (1, 0)])] := by
    match L, h2 with
    | [], e => simp at e
    | [(v, c)], e => simp at e; subst e; exact ⟨v, rfl⟩
    | _ :: _ :: _, e => simp at e
  have sh := h3.shown (fun p hp => by simp at hp; subst hp; simp)
  obtain ⟨ao, cap, rfl, hr⟩ := sh.row
  obtain ⟨gl, rfl, hgl, hc⟩ := hr.resolve_left (by simp)
  obtain ⟨g, c, hv, _, hg, hp⟩ := sh.pts _ (List.mem_singleton.2 rfl)
  simp only at hv hp
  subst hv
  have s0 := shpP_at [((Value.slice (some ⟨g, 0, none⟩) 4 c), [((0 : Int), (0 : Int)), (0, 1), (1, 1), (1, 0)])] 0 (by simp)
  have c0 := hc _ _ s0.1
  have c1 := hc _ _ s0.2
  have et : Qm.twiceOf [(0, 0), (0, 1), (1, 1), (1, 0)] = 2 := by decide
  simp only [List.getElem_cons_zero, et] at c0 c1
  exact ⟨gl, cap, g, c, rfl, hgl, hg, c0, c1⟩

set_option maxRecDepth 4000 in
set_option maxHeartbeats 1000000 in
theorem traces_any (w : World) :
    Calls Try.prog 25 #[] w fun e w' => e = .returned (.bool true) ∧ Below w.heap.size w w' := by
  go_enter Try.func25, Try.ntmps25
  go_wp2_with fail
  refine (works_any _).mono ?_
  rintro e w0 ⟨rfl, hb0⟩
  have B0 := hid (show Below w.heap.size w w0 from hb0)
  clear hb0
  go_wp2_with fail
  refine (trace_yes 1 1 ⟨#[49]⟩ 0 ⟨#[]⟩ 0 _ (by decide) (by omega) (by omega) rfl (by omega) (by omega) (by omega)).mono ?_
  rintro e w1 ⟨vl, rfl, ho⟩
  obtain ⟨hb, gl, cap, g, c, rfl, hgl, hg, c0, c1⟩ := one_traced ho
  have B1 := hid (show Below w.heap.size w w1 from B0.out.trans (hb.mono B0.out.size))
  clear hb ho
  go_wp2
  go_ret
  exact ⟨rfl, B1.out⟩
end Go.Proofs.Ytljfiefobnncaaa
