import Derived.Test.YtljfiefobnncaaaK15
import Derived.Deep.RegionWith
import Derived.Test.YtljfiefobnncaaaK04
import Derived.Test.YtljfiefobnncaaaK09

/- Package polygons: fits. -/
namespace Go.Proofs.Ytljfiefobnncaaa
open Go.RowKit

theorem fit_no {l : List (Int × Int)} {x y : Int} (h1 : Qm.loF Prod.fst l l.length ≤ x) (h2 : x < Qm.hiF Prod.fst l l.length) (h3 : Qm.loF Prod.snd l l.length ≤ y) (h4 : y < Qm.hiF Prod.snd l l.length) (h : Qm.okAt l x y = false) : Qm.fitB l = false := by
  cases hf : Qm.fitB l with
  | false => rfl
  | true => rw [(Qm.fitB_iff l).1 hf x y h1 h2 h3 h4] at h; simp at h

set_option maxRecDepth 4000 in
set_option maxHeartbeats 2000000 in
theorem fits_any (g o n cap : Nat) (l : List (Int × Int)) (hn : n = l.length) (h0 : 0 < n) (hs : Qm.Small l) (hn2 : n ≤ 4357) (w : World) (hP : PtsO g o l w) :
    Calls Try.prog 98 #[.slice (some ⟨g, o, none⟩) n cap] w fun e w' => e = .returned (.bool (Qm.fitB l)) ∧ Below w.heap.size w w' := by
  have HP := hid hP
  have hg := hP.1
  have HN := hid hn
  obtain ⟨q0, q1⟩ := hP.2 0 (by omega)
  obtain ⟨t0, t1⟩ := hP.2 (n - 1) (by omega)
  simp only [Nat.zero_mul, Nat.add_zero] at q0 q1
  have sa := small_in hs 0
  have sz := small_in hs (n - 1)
  have li := Qm.loF_in hs n
  have hi := Qm.hiF_in hs n
  have FI := hid (Qm.fitB_iff l)
  have FN := hid (fun x y => fit_no (l := l) (x := x) (y := y))
  have OK := hid (fun x y => show Qm.okAt l x y = (!Qm.thB (l.getD (n - 1) (0, 0)) (l.getD 0 (0, 0)) x y && decide (Qm.wsum l x y n = 0)) by rw [hn]; rfl)
  rw [← hn] at FI FN
  obtain ⟨n1, hn1⟩ : ∃ n1, n = n1 + 1 := ⟨n - 1, by omega⟩
  subst hn1
  simp only [Nat.add_sub_cancel] at t0 t1 sz OK
  obtain ⟨⟨fa, fb⟩, hff⟩ : ∃ p, p = l.getD 0 (0, 0) := ⟨_, rfl⟩
  obtain ⟨⟨za, zb⟩, hzz⟩ : ∃ p, p = l.getD n1 (0, 0) := ⟨_, rfl⟩
  rw [← hff] at q0 q1 sa OK
  rw [← hzz] at t0 t1 sz OK
  dsimp only at q0 q1 t0 t1
  have BO := hid (fun W' (h : PtsO g o l W') => bounds_any g o (n1 + 1) cap l HN.out h0 hn2 W' h)
  have GT := hid (fun x y (a : -32 ≤ x) (b : x ≤ 64) (c : -32 ≤ y) (d : y ≤ 64) W' => through_any (za, zb) (fa, fb) x y sz sa a b c d W')
  have WI := hid (fun x y (a : -32 ≤ x) (b : x ≤ 64) (c : -32 ≤ y) (d : y ≤ 64) W' (h : PtsO g o l W') => winding_any g o (n1 + 1) cap l HN.out h0 hs hn2 x y a b c d W' h)
  obtain ⟨lx, hlx⟩ : ∃ v, v = Qm.loF Prod.fst l (n1 + 1) := ⟨_, rfl⟩
  obtain ⟨ly, hly⟩ : ∃ v, v = Qm.loF Prod.snd l (n1 + 1) := ⟨_, rfl⟩
  obtain ⟨hx, hhx⟩ : ∃ v, v = Qm.hiF Prod.fst l (n1 + 1) := ⟨_, rfl⟩
  obtain ⟨hy, hhy⟩ : ∃ v, v = Qm.hiF Prod.snd l (n1 + 1) := ⟨_, rfl⟩
  rw [← hlx, ← hly] at li
  rw [← hhx, ← hhy] at hi
  rw [← hlx, ← hly, ← hhx, ← hhy] at FI FN BO
  have e0 : ((n1 : Int) + 1 == 0) = false := by simp; omega
  have hg2 : g < w.heap.size + 1 := by omega
  have hg3 : g < w.heap.size + 1 + 1 := by omega
  dsimp only at GT
  clear hP hn hff hzz hlx hly hhx hhy sa sz
  go_enter Try.func98, Try.ntmps98
  go_wp2_with fail
  refine (BO.out _ (HP.out.on (B := w.heap.size) (by go_grown) hg)).mono ?_
  rintro e w2 ⟨rfl, hb⟩
  have B2 := hid (show Below w.heap.size w w2 from Below.trans (b := _) (by go_grown) (hb.mono (by simp; omega)))
  have z2 := hb.size
  simp at z2
  have X0 : BoxP w.heap.size (fa, fb) w2 := BoxP.on ((BoxP.new _ rfl).alloc _) hb (by simp; omega)
  have X1 : BoxP (w.heap.size + 1) (za, zb) w2 := BoxP.on (BoxP.new _ (by simp)) hb (by simp)
  clear hb q0 q1 t0 t1
  have X0H := hid X0
  have X1H := hid X1
  obtain ⟨B3, hB3⟩ : ∃ B3, B3 = w2.heap.size := ⟨_, rfl⟩
  have zB : w.heap.size + 1 < B3 := by omega
  go_wp2_with fail
  rw [← hB3]
  have HB3 := hid hB3
  clear hB3
  go_loopw [7] (fun yv wr => ∃ y : Int, yv = .int .i64 y ∧ ly ≤ y ∧ (y = ly ∨ y ≤ hy) ∧ (∀ x' y', lx ≤ x' → x' < hx → ly ≤ y' → y' < y → Qm.okAt l x' y' = true) ∧ BoxP w.heap.size (fa, fb) wr ∧ BoxP (w.heap.size + 1) (za, zb) wr ∧ BoxP B3 (lx, ly) wr ∧ BoxP (B3 + 1) (hx, hy) wr ∧ Below w.heap.size w wr) (fun y _ => (hy - intOf y).toNat)
  case atStart => exact ⟨ly, rfl, by omega, .inl rfl, fun _ _ _ _ _ _ => by omega, (X0H.out.alloc _).alloc _, (X1H.out.alloc _).alloc _, (BoxP.new _ HB3.out).alloc _, BoxP.new _ (by simp [HB3.out]), (B2.out.alloc (by omega) _).alloc (by simp; omega) _⟩
  case round =>
    clear X0 X1 X0H X1H B2
    obtain ⟨y, rfl, hy0, hy1, hok, x0, x1, x2, x3, hb⟩ := hrel
    have OKS := hid hok
    have HB := hid hb
    have X0 := hid x0
    have X1 := hid x1
    have X2 := hid x2
    have X3 := hid x3
    obtain ⟨a0, a1, -, -, a4⟩ := x0
    obtain ⟨b0, b1, -, -, b4⟩ := x1
    obtain ⟨c0, c1, -, -, c4⟩ := x2
    obtain ⟨d0, d1, -, -, d4⟩ := x3
    dsimp only at a0 a1 b0 b1 c0 c1 d0 d1
    clear hok hb
    by_cases hlt : y < hy
    · go_wp2_with fail
      clear a0 a1 b0 b1 c0 c1 d0 d1 a4 b4 c4 d4
      go_loopw [8] (fun xv wr => ∃ x : Int, xv = .int .i64 x ∧ lx ≤ x ∧ (x = lx ∨ x ≤ hx) ∧ (∀ x', lx ≤ x' → x' < x → Qm.okAt l x' y = true) ∧ BoxP w.heap.size (fa, fb) wr ∧ BoxP (w.heap.size + 1) (za, zb) wr ∧ BoxP B3 (lx, ly) wr ∧ BoxP (B3 + 1) (hx, hy) wr ∧ Below w.heap.size w wr) (fun x _ => (hx - intOf x).toNat)
      case atStart => exact ⟨lx, rfl, by omega, .inl rfl, fun _ _ _ => by omega, X0.out, X1.out, X2.out, X3.out, HB.out⟩
      case round =>
        clear X0 X1 X2 X3 HB
        obtain ⟨x, rfl, hx0, hx1, hok, x0, x1, x2, x3, hb⟩ := hrel
        have OKX := hid hok
        have HB := hid hb
        have X0 := hid x0
        have X1 := hid x1
        have X2 := hid x2
        have X3 := hid x3
        obtain ⟨a0, a1, -, -, a4⟩ := x0
        obtain ⟨b0, b1, -, -, b4⟩ := x1
        obtain ⟨c0, c1, -, -, c4⟩ := x2
        obtain ⟨d0, d1, -, -, d4⟩ := x3
        dsimp only at a0 a1 b0 b1 c0 c1 d0 d1
        clear hok hb
        by_cases hlx : x < hx
        · have ok := hid (OK.out x y)
          obtain ⟨t, ht⟩ : ∃ t, Qm.thB (za, zb) (fa, fb) x y = t := ⟨_, rfl⟩
          have gt := GT.out x y (by omega) (by omega) (by omega) (by omega)
          rw [ht] at gt ok
          have GTX := hid gt
          clear gt ht
          go_wp2_with fail
          refine (GTX.out _).mono ?_
          rintro e w3 ⟨rfl, hb3⟩
          have B3' := hid (show Below w.heap.size w w3 from HB.out.trans (hb3.mono HB.out.size))
          have Y0 := hid (X0.out.on hb3 a4)
          have Y1 := hid (X1.out.on hb3 b4)
          have Y2 := hid (X2.out.on hb3 c4)
          have Y3 := hid (X3.out.on hb3 d4)
          clear hb3 a0 a1 b0 b1 c0 c1 d0 d1
          cases t
          · go_wp2_with fail
            refine (WI.out x y (by omega) (by omega) (by omega) (by omega) _ (HP.out.on B3'.out hg)).mono ?_
            rintro e w4 ⟨rfl, hb4⟩
            have z3 := B3'.out.size
            have B4 := hid (show Below w.heap.size w w4 from B3'.out.trans (hb4.mono z3))
            have Z0 := hid (Y0.out.on hb4 Y0.out.2.2.2.2)
            have Z1 := hid (Y1.out.on hb4 Y1.out.2.2.2.2)
            have Z2 := hid (Y2.out.on hb4 Y2.out.2.2.2.2)
            have Z3 := hid (Y3.out.on hb4 Y3.out.2.2.2.2)
            clear hb4
            obtain ⟨v, hv⟩ : ∃ v, Qm.wsum l x y (n1 + 1) = v := ⟨_, rfl⟩
            rw [hv] at ok ⊢
            clear hv
            by_cases hv0 : v = 0
            · subst hv0
              have okt : Qm.okAt l x y = true := by rw [ok.out]; rfl
              have OKT := hid okt
              clear okt
              go_wp2
              go_roundw
              case rel =>
                refine ⟨x + 1, by go_num, by omega, .inr (by omega), fun x' h1 h2 => ?_, Z0.out, Z1.out, Z2.out, Z3.out, B4.out⟩
                rcases Int.lt_or_le x' x with h3 | h3
                · exact OKX.out x' h1 h3
                · rw [show x' = x from by omega]; exact OKT.out
              case measure => simp [intOf]; omega
            · have ok0 : Qm.okAt l x y = false := by rw [ok.out]; simpa using hv0
              have FF := hid (FN.out x y hx0 hlx hy0 hlt ok0)
              have dv : (v == 0) = false := by simpa using hv0
              clear ok0
              go_wp2
              go_ret
              exact ⟨ret_bool FF.out.symm, B4.out⟩
          · have ok0 : Qm.okAt l x y = false := by rw [ok.out]; rfl
            have FF := hid (FN.out x y hx0 hlx hy0 hlt ok0)
            clear ok0
            go_wp2
            go_ret
            exact ⟨ret_bool FF.out.symm, B3'.out⟩
        · go_wp2
          go_roundw
          case rel =>
            refine ⟨y + 1, by go_num, by omega, .inr (by omega), fun x' y' h1 h2 h3 h4 => ?_, X0.out, X1.out, X2.out, X3.out, HB.out⟩
            rcases Int.lt_or_le y' y with h5 | h5
            · exact OKS.out x' y' h1 h2 h3 h5
            · rw [show y' = y from by omega]; exact OKX.out x' h1 (by omega)
          case measure => simp [intOf]; omega
    · have FT := hid (show Qm.fitB l = true from FI.out.2 fun x' y' h1 h2 h3 h4 => OKS.out x' y' h1 h2 h3 (by omega))
      go_wp2
      go_ret
      exact ⟨ret_bool FT.out.symm, HB.out⟩
end Go.Proofs.Ytljfiefobnncaaa

/- Package polygons: bestRow. -/
namespace Go.Proofs.Ytljfiefobnncaaa
open Go.RowKit
attribute [local go_sem ↓] Go.wp_at_zero Go.wp_at_succ

/-- A row of lines in a box. -/
def BoxR (b : Nat) (r : Qm.Rw) (w : World) : Prop := w.cell? ⟨b, 0, none⟩ = some (.int .i64 r.1) ∧ w.cell? ⟨b, 1, none⟩ = some (.int .i64 r.2.1) ∧ w.cell? ⟨b, 2, none⟩ = some (.int .i64 r.2.2) ∧ w.frozen? ⟨b, 0, none⟩ = false ∧ w.frozen? ⟨b, 1, none⟩ = false ∧ w.frozen? ⟨b, 2, none⟩ = false ∧ b < w.heap.size
theorem BoxR.on {B B' : Nat} {p : Qm.Rw} {w w' : World} (h : BoxR B p w) (hb : Below B' w w') (hB : B < B') : BoxR B p w' :=
  ⟨(hb.cell (p := ⟨B, 0, none⟩) hB).trans h.1, (hb.cell (p := ⟨B, 1, none⟩) hB).trans h.2.1, (hb.cell (p := ⟨B, 2, none⟩) hB).trans h.2.2.1, (hb.frozen (p := ⟨B, 0, none⟩) hB).trans h.2.2.2.1, (hb.frozen (p := ⟨B, 1, none⟩) hB).trans h.2.2.2.2.1, (hb.frozen (p := ⟨B, 2, none⟩) hB).trans h.2.2.2.2.2.1, Nat.lt_of_lt_of_le h.2.2.2.2.2.2 hb.size⟩
theorem BoxR.new {B : Nat} {a b c : Int} {w : World} (t : TypeId) (hB : B = w.heap.size) : BoxR B (a, b, c) (w.alloc (.cells #[.int .i64 a, .int .i64 b, .int .i64 c] t)) := by
  subst hB; exact ⟨by simp, by simp, by simp, by simp, by simp, by simp, by simp⟩
theorem BoxR.other {B C j : Nat} {p : Qm.Rw} {v : Value} {w : World} (h : BoxR B p w) (hne : B ≠ C) : BoxR B p (w.setCell ⟨C, j, none⟩ v) := by
  have o : ∀ i, (w.setCell ⟨C, j, none⟩ v).cell? ⟨B, i, none⟩ = w.cell? ⟨B, i, none⟩ := fun i => World.cell?_setCell_other _ _ _ _ (by intro e; injection e with e _ _; exact hne e.symm)
  exact ⟨(o 0).trans h.1, (o 1).trans h.2.1, (o 2).trans h.2.2.1, by simpa using h.2.2.2.1, by simpa using h.2.2.2.2.1, by simpa using h.2.2.2.2.2.1, by rw [World.size_setCell]; exact h.2.2.2.2.2.2⟩
theorem BoxR.set0 {B : Nat} {a b c x : Int} {w : World} (h : BoxR B (a, b, c) w) : BoxR B (x, b, c) (w.setCell ⟨B, 0, none⟩ (.int .i64 x)) :=
  ⟨World.cell?_setCell_same _ _ _ h.1, (World.cell?_setCell_other _ _ _ _ (by simp)).trans h.2.1, (World.cell?_setCell_other _ _ _ _ (by simp)).trans h.2.2.1, by simpa using h.2.2.2.1, by simpa using h.2.2.2.2.1, by simpa using h.2.2.2.2.2.1, by rw [World.size_setCell]; exact h.2.2.2.2.2.2⟩
theorem BoxR.set1 {B : Nat} {a b c x : Int} {w : World} (h : BoxR B (a, b, c) w) : BoxR B (a, x, c) (w.setCell ⟨B, 1, none⟩ (.int .i64 x)) :=
  ⟨(World.cell?_setCell_other _ _ _ _ (by simp)).trans h.1, World.cell?_setCell_same _ _ _ h.2.1, (World.cell?_setCell_other _ _ _ _ (by simp)).trans h.2.2.1, by simpa using h.2.2.2.1, by simpa using h.2.2.2.2.1, by simpa using h.2.2.2.2.2.1, by rw [World.size_setCell]; exact h.2.2.2.2.2.2⟩
theorem BoxR.set2 {B : Nat} {a b c x : Int} {w : World} (h : BoxR B (a, b, c) w) : BoxR B (a, b, x) (w.setCell ⟨B, 2, none⟩ (.int .i64 x)) :=
  ⟨(World.cell?_setCell_other _ _ _ _ (by simp)).trans h.1, (World.cell?_setCell_other _ _ _ _ (by simp)).trans h.2.1, World.cell?_setCell_same _ _ _ h.2.2.1, by simpa using h.2.2.2.1, by simpa using h.2.2.2.2.1, by simpa using h.2.2.2.2.2.1, by rw [World.size_setCell]; exact h.2.2.2.2.2.2⟩
theorem BoxR.alloc {B : Nat} {p : Qm.Rw} {w : World} (h : BoxR B p w) (o : Obj) : BoxR B p (w.alloc o) := h.on ((Below.refl _ _).alloc (Nat.le_refl _) _) h.2.2.2.2.2.2
/-- Rows of lines, in a list. -/
def RowsAt (g : Nat) (B : List Qm.Rw) (w : World) : Prop := g < w.heap.size ∧ ∀ j, j < B.length → w.cell? ⟨g, j * 3, none⟩ = some (.int .i64 (B.getD j (0, 0, 0)).1) ∧ w.cell? ⟨g, j * 3 + 1, none⟩ = some (.int .i64 (B.getD j (0, 0, 0)).2.1) ∧ w.cell? ⟨g, j * 3 + 2, none⟩ = some (.int .i64 (B.getD j (0, 0, 0)).2.2)
theorem RowsAt.on {g : Nat} {l : List Qm.Rw} {w w' : World} {B : Nat} (h : RowsAt g l w) (hb : Below B w w') (hg : g < B) : RowsAt g l w' :=
  ⟨Nat.lt_of_lt_of_le h.1 hb.size, fun j hj => ⟨(hb.cell (p := ⟨g, j * 3, none⟩) hg).trans (h.2 j hj).1, (hb.cell (p := ⟨g, j * 3 + 1, none⟩) hg).trans (h.2 j hj).2.1, (hb.cell (p := ⟨g, j * 3 + 2, none⟩) hg).trans (h.2 j hj).2.2⟩⟩
def RwsIn (B : List Qm.Rw) : Prop := ∀ j, 0 ≤ (B.getD j (0, 0, 0)).1 ∧ (B.getD j (0, 0, 0)).1 ≤ 10000 ∧ 0 ≤ (B.getD j (0, 0, 0)).2.1 ∧ (B.getD j (0, 0, 0)).2.1 ≤ 1000000000

/-- A post that only a way to the end meets. -/
def OnlyN (R : Act → World → Prop) : Exit → Act → World → Prop
  | .normal, a, w => R a w
  | _, _, _ => False
/-- All ways through a piece of code end in one frame, in worlds of which G holds. -/
theorem wp_some {P : Program} {c : Code} {Q : Exit → Act → World → Prop} {a : Act} {w : World} {G : World → Prop} (A : Act) (h : c.wp P (OnlyN fun a' w' => a' = A ∧ G w') a w) (k : ∀ w', G w' → Q .normal A w') : c.wp P Q a w :=
  Code.wp_mono (fun e a' w' h => by
    cases e with
    | normal => obtain ⟨rfl, h3⟩ := h; exact k _ h3
    | _ => exact h.elim) h

set_option maxRecDepth 4000 in
set_option maxHeartbeats 2000000 in
theorem bestRow_any (g o n cap : Nat) (l : List (Int × Int)) (hn : n = l.length) (h0 : 0 < n) (hcap : n ≤ cap) (hs : Qm.Small l) (hn2 : n ≤ 4357) (ao : Option Addr) (nb capb : Nat) (B : List Qm.Rw) (hnb : nb = B.length) (hnb2 : nb ≤ 4357) (w : World) (hP : PtsO g o l w) (hB : nb = 0 ∨ ∃ gb, ao = some ⟨gb, 0, none⟩ ∧ RowsAt gb B w) (hin : RwsIn B) :
    Calls Try.prog 90 #[.slice (some ⟨g, o, none⟩) n cap, .slice ao nb capb] w fun e w' => e = .returned (rwV (Qm.accR l B (Qm.spn n nb))) ∧ Below w.heap.size w w' := by
  have HP := hid hP
  have hg := hP.1
  have HN := hid hn
  have HNB := hid hnb
  have HB0 := hid hB
  have HIN := hid hin
  have HS := hid hs
  have SP := hid (show Qm.spn n nb = min 12 (min (n - 1) nb) from rfl)
  clear hP hn hnb hB hin hs
  go_enter Try.func90, Try.ntmps90
  go_wp2_with fail
  go_loopw [6] (fun sv wr => ∃ k : Nat, sv = .int .i64 ((k : Int) + 1) ∧ k ≤ Qm.spn n nb ∧ BoxR w.heap.size (0, 0, 0) wr ∧ BoxR (w.heap.size + 1) (Qm.accR l B k) wr ∧ Below w.heap.size w wr) (fun s _ => 14 - (intOf s).toNat)
  case atStart => exact ⟨0, rfl, by omega, (BoxR.new _ rfl).alloc _, BoxR.new _ (by simp), by go_grown⟩
  case round =>
    obtain ⟨k, rfl, hk, x0, x1, hb⟩ := hrel
    rw [SP.out] at hk
    have HB := hid hb
    have X0 := hid x0
    have X1 := hid x1
    clear x0
    by_cases hlt : k < min 12 (min (n - 1) nb)
    · have c1 : (k : Int) + 1 ≤ 12 := by omega
      have c2 : (k : Int) + 1 < (n : Nat) := by omega
      have c3 : (k : Int) + 1 ≤ (nb : Nat) := by omega
      have c4 : (k : Int) + 1 + 1 = ((k + 2 : Nat) : Int) := by omega
      have c5 : ((k + 2 : Nat) : Int) ≤ (cap : Nat) := by omega
      have c6 : k + 2 ≤ cap := by omega
      have c7 : ((k + 2 : Nat) : Int).toNat = k + 2 := by omega
      have PT := hid (fun W' (h : Below w.heap.size w W') => (HP.out.on h hg).take (k + 2))
      have lt : (l.take (k + 2)).length = k + 2 := by rw [List.length_take, ← HN.out]; omega
      have sm := HS.out.take (k + 2)
      have FI := hid (fun W' (h : Below w.heap.size w W') => fits_any g o (k + 2) cap (l.take (k + 2)) lt.symm (by omega) sm (by omega) W' (PT.out W' h))
      have CO := hid (fun W' (h : Below w.heap.size w W') => cost_any g o (k + 2) cap (l.take (k + 2)) lt.symm (by omega) sm (by omega) W' (PT.out W' h))
      have ci := Qm.costOf_in sm
      rw [lt] at ci
      have AC := hid (show Qm.accR l B (k + 1) = if Qm.fitB (l.take (k + 2)) && (decide (k = 0) || Qm.betB ((B.getD (nb - (k + 1)) (0, 0, 0)).1 + 1, (B.getD (nb - (k + 1)) (0, 0, 0)).2.1 + Qm.costOf (l.take (k + 2)), (k : Int) + 1) (Qm.accR l B k)) then ((B.getD (nb - (k + 1)) (0, 0, 0)).1 + 1, (B.getD (nb - (k + 1)) (0, 0, 0)).2.1 + Qm.costOf (l.take (k + 2)), (k : Int) + 1) else Qm.accR l B k by rw [HNB.out]; rfl)
      obtain ⟨gb, hgb⟩ := HB0.out.resolve_left (by omega)
      obtain ⟨rfl, hrows⟩ := hgb
      obtain ⟨e0, e1, e2⟩ := (hrows.on hb hrows.1).2 (nb - (k + 1)) (by have := HNB.out; omega)
      have iq := HIN.out (nb - (k + 1))
      obtain ⟨q, hq⟩ : ∃ q, q = nb - (k + 1) := ⟨_, rfl⟩
      rw [← hq] at e0 e1 e2 AC iq
      have q1 : (nb : Int) - ((k : Int) + 1) = (q : Nat) := by omega
      have q2 : (q : Int) < (nb : Nat) := by omega
      have q3 : IntKind.i64.wrap ((q : Nat) : Int) = (q : Nat) := by rw [IntKind.wrap_i64]; omega
      obtain ⟨⟨ra, rb, rc⟩, hrr⟩ : ∃ r, r = B.getD q (0, 0, 0) := ⟨_, rfl⟩
      rw [← hrr] at e0 e1 e2 AC iq
      dsimp only at e0 e1 e2 AC iq
      obtain ⟨ct, hct⟩ : ∃ ct, Qm.costOf (l.take (k + 2)) = ct := ⟨_, rfl⟩
      rw [hct] at CO AC ci
      obtain ⟨ft, hft⟩ : ∃ ft, Qm.fitB (l.take (k + 2)) = ft := ⟨_, rfl⟩
      rw [hft] at FI AC
      obtain ⟨a, ha⟩ : ∃ a, a = Qm.accR l B k := ⟨_, rfl⟩
      rw [← ha] at AC X1 x1
      have IB := hid (fun W' => isBetter_any (ra + 1, rb + ct, (k : Int) + 1) a W')
      have hgw := hrows.1
      have hz := hb.size
      have gb1 : gb < wr.heap.size := by omega
      have HR := hid hrows
      have HQ := hid hq
      clear hb hrr hct hft ha hrows PT sm lt x1 hq
      go_wp2_with fail
      refine (FI.out _ HB.out).mono ?_
      rintro e w1 ⟨rfl, hb1⟩
      have B1 := hid (show Below w.heap.size w w1 from HB.out.trans (hb1.mono HB.out.size))
      have Y0 := hid (X0.out.on hb1 X0.out.2.2.2.2.2.2)
      have Y1 := hid (X1.out.on hb1 X1.out.2.2.2.2.2.2)
      have f0 := ((bcell hb1).1 gb (q * 3) gb1).trans e0
      have f1 := ((bcell hb1).1 gb (q * 3 + 1) gb1).trans e1
      have f2 := ((bcell hb1).1 gb (q * 3 + 2) gb1).trans e2
      have gb2 : gb < w1.heap.size := by have := hb1.size; omega
      clear hb1 e0 e1 e2
      cases ft
      · go_wp2
        go_roundw
        case rel => exact ⟨k + 1, by go_num, by rw [SP.out]; omega, Y0.out, by rw [AC.out]; exact Y1.out, B1.out⟩
        case measure => simp [intOf]; omega
      · go_wp2_with fail
        have RN := hid (show BoxR w1.heap.size (ra + 1, rb, rc) (w1.alloc (.cells #[.int .i64 (ra + 1), .int .i64 rb, .int .i64 rc] 113)) from BoxR.new _ rfl)
        have BN := hid (show Below w.heap.size w (w1.alloc (.cells #[.int .i64 (ra + 1), .int .i64 rb, .int .i64 rc] 113)) from B1.out.alloc B1.out.size _)
        have N0 := hid (show BoxR w.heap.size (0, 0, 0) (w1.alloc (.cells #[.int .i64 (ra + 1), .int .i64 rb, .int .i64 rc] 113)).drew from Y0.out.alloc (.cells #[.int .i64 (ra + 1), .int .i64 rb, .int .i64 rc] 113))
        have N1 := hid (show BoxR (w.heap.size + 1) a (w1.alloc (.cells #[.int .i64 (ra + 1), .int .i64 rb, .int .i64 rc] 113)).drew from Y1.out.alloc (.cells #[.int .i64 (ra + 1), .int .i64 rb, .int .i64 rc] 113))
        have BND := hid (show Below w.heap.size w (w1.alloc (.cells #[.int .i64 (ra + 1), .int .i64 rb, .int .i64 rc] 113)).drew from BN.out.trans ⟨rfl, rfl, rfl, Nat.le_refl _, fun _ _ => rfl⟩)
        have RND := hid (show BoxR w1.heap.size (ra + 1, rb, rc) (w1.alloc (.cells #[.int .i64 (ra + 1), .int .i64 rb, .int .i64 rc] 113)).drew from RN.out)
        have hwr : IntKind.i64.wrap (rb + ct) = rb + ct := by rw [IntKind.wrap_i64]; omega
        have hw1w : w.heap.size + 1 < w1.heap.size := Y1.out.2.2.2.2.2.2
        apply wp_some (G := fun w' => BoxR w1.heap.size (ra + 1, rb + ct, rc) w' ∧ BoxR w.heap.size (0, 0, 0) w' ∧ BoxR (w.heap.size + 1) a w' ∧ Below w.heap.size w w')
        case h =>
          go_region_with (first | (go_at_call 99; refine (CO.out _ BND.out).mono ?_; rintro e w2 ⟨rfl, hb2⟩; have B2 := hid (show Below w.heap.size w w2 from BND.out.trans (hb2.mono BND.out.size)); have R2 := RND.out.on hb2 RND.out.2.2.2.2.2.2; have Z0 := hid (N0.out.on hb2 N0.out.2.2.2.2.2.2); have Z1 := hid (N1.out.on hb2 N1.out.2.2.2.2.2.2); have RR2 := hid R2; clear hb2; obtain ⟨y0, y1, y2, y3, y4, y5, -⟩ := R2; dsimp only at y0 y1 y2))
          all_goals exact ⟨rfl, RR2.out.set1, Z0.out.other (by omega), Z1.out.other (by omega), B2.out.setCell (by dsimp only; omega) _⟩
        rintro w3 ⟨R3, T0, T1, B3⟩
        have R3H := hid R3
        have T0H := hid T0
        have T1H := hid T1
        have B3H := hid B3
        have z3 := R3.2.2.2.2.2.2
        clear RN BN BND RND N0 N1 f0 f1 f2 T0 B3
        obtain ⟨y0, y1, y2, y3, y4, y5, -⟩ := R3
        obtain ⟨a0, a1, a2⟩ := a
        obtain ⟨v0, v1, v2, v3, v4, v5, v6⟩ := T1
        dsimp only at y0 y1 y2 v0 v1 v2
        rcases Nat.eq_zero_or_pos k with hk0 | hk0
        · have AC2 := hid (show Qm.accR l B (k + 1) = (ra + 1, rb + ct, (k : Int) + 1) by rw [AC.out, hk0]; rfl)
          have d1 : ((k : Int) + 1 == 1) = true := by simp; omega
          have d2 : ((k : Int) == 0) = true := by simp; omega
          have d3 : (k == 0) = true := by simp; omega
          clear hk0 AC
          go_wp2
          go_roundw
          case rel =>
            refine ⟨k + 1, by go_num, by rw [SP.out]; omega, ?_, ?_, ?_⟩
            · exact (((T0H.out.other (by omega)).other (by omega)).other (by omega)).other (by omega)
            · rw [AC2.out]; exact (((T1H.out.other (by omega)).set0).set1).set2
            · exact (((B3H.out.setCell (by dsimp only; omega) _).setCell (by dsimp only; omega) _).setCell (by dsimp only; omega) _).setCell (by dsimp only; omega) _
          case measure => simp [intOf]; omega
        · have d1 : ((k : Int) + 1 == 1) = false := by simp; omega
          have d2 : ((k : Int) == 0) = false := by simp; omega
          have d3 : (k == 0) = false := by simp; omega
          have d4 : ¬ (k : Int) + 1 = 1 := by omega
          have d5 : ¬ k = 0 := by omega
          have AC2 := hid (show Qm.accR l B (k + 1) = if Qm.betB (ra + 1, rb + ct, (k : Int) + 1) (a0, a1, a2) then (ra + 1, rb + ct, (k : Int) + 1) else (a0, a1, a2) by rw [AC.out, decide_eq_false d5]; rfl)
          clear AC
          go_wp2_with fail
          refine (IB.out _).mono ?_
          obtain ⟨bt, hbt⟩ : ∃ bt, Qm.betB (ra + 1, rb + ct, (k : Int) + 1) (a0, a1, a2) = bt := ⟨_, rfl⟩
          rw [hbt] at AC2
          simp only [hbt]
          rintro e w4 ⟨rfl, hb4⟩
          have zz : w1.heap.size < (w3.setCell ⟨w1.heap.size, 2, none⟩ (.int .i64 ((k : Int) + 1))).heap.size := by rw [World.size_setCell]; exact z3
          have R4 := (R3H.out.set2 (x := (k : Int) + 1)).on hb4 zz
          have U0 := hid ((T0H.out.other (C := w1.heap.size) (j := 2) (v := .int .i64 ((k : Int) + 1)) (by omega)).on hb4 (by omega))
          have U1 := (T1H.out.other (C := w1.heap.size) (j := 2) (v := .int .i64 ((k : Int) + 1)) (by omega)).on hb4 (by omega)
          have B4 := hid (show Below w.heap.size w w4 from (B3H.out.setCell (by dsimp only; omega) _).trans (hb4.mono (by omega)))
          have U1H := hid U1
          clear hb4 y0 y1 y2 y3 y4 y5 v0 v1 v2 v3 v4 v5 zz
          obtain ⟨y0, y1, y2, y3, y4, y5, y6⟩ := R4
          obtain ⟨v0, v1, v2, v3, v4, v5, v7⟩ := U1
          dsimp only at y0 y1 y2 v0 v1 v2
          cases bt
          · go_wp2
            go_roundw
            case rel => exact ⟨k + 1, by go_num, by rw [SP.out]; omega, U0.out, by rw [AC2.out]; exact U1H.out, B4.out⟩
            case measure => simp [intOf]; omega
          · go_wp2
            go_roundw
            case rel =>
              refine ⟨k + 1, by go_num, by rw [SP.out]; omega, ?_, ?_, ?_⟩
              · exact ((U0.out.other (by omega)).other (by omega)).other (by omega)
              · rw [AC2.out]; exact ((U1H.out.set0).set1).set2
              · exact ((B4.out.setCell (by dsimp only; omega) _).setCell (by dsimp only; omega) _).setCell (by dsimp only; omega) _
            case measure => simp [intOf]; omega
    · have hk2 : k = min 12 (min (n - 1) nb) := by omega
      have SK := hid (show Qm.spn n nb = k by rw [SP.out, hk2])
      have X0' := X0.out
      obtain ⟨a, ha⟩ : ∃ a, a = Qm.accR l B k := ⟨_, rfl⟩
      have HA := hid ha
      rw [← ha] at x1
      obtain ⟨a0, a1, a2⟩ := a
      obtain ⟨v0, v1, v2, v3, v4, v5, v6⟩ := x1
      obtain ⟨u0, u1, u2, u3, u4, u5, u6⟩ := X0'
      dsimp only at v0 v1 v2 u0 u1 u2
      clear hb X0 X1 ha
      by_cases c1 : (k : Int) + 1 ≤ 12
      · have d1 : decide ((k : Int) + 1 ≤ 12) = true := by simpa using c1
        by_cases c2 : (k : Int) + 1 < (n : Nat)
        · have d2 : decide ((k : Int) + 1 < (n : Nat)) = true := by simpa using c2
          have c3 : ¬ (k : Int) + 1 ≤ (nb : Nat) := by omega
          have d3 : decide ((k : Int) + 1 ≤ (nb : Nat)) = false := by simpa using c3
          clear hk2
          go_wp2
          refine bodyPost_ret (v := .agg #[.int .i64 a0, .int .i64 a1, .int .i64 a2]) (by simp [results, Try.results90, go_sem, World.cell?_setCell_other, World.cell?_setCell_same', *]) rfl ?_
          exact ⟨by rw [SK.out, ← HA.out]; rfl, ((HB.out.setCell (by dsimp only; omega) _).setCell (by dsimp only; omega) _).setCell (by dsimp only; omega) _⟩
        · have d2 : decide ((k : Int) + 1 < (n : Nat)) = false := by simpa using c2
          clear hk2
          go_wp2
          refine bodyPost_ret (v := .agg #[.int .i64 a0, .int .i64 a1, .int .i64 a2]) (by simp [results, Try.results90, go_sem, World.cell?_setCell_other, World.cell?_setCell_same', *]) rfl ?_
          exact ⟨by rw [SK.out, ← HA.out]; rfl, ((HB.out.setCell (by dsimp only; omega) _).setCell (by dsimp only; omega) _).setCell (by dsimp only; omega) _⟩
      · have d1 : decide ((k : Int) + 1 ≤ 12) = false := by simpa using c1
        clear hk2
        go_wp2
        refine bodyPost_ret (v := .agg #[.int .i64 a0, .int .i64 a1, .int .i64 a2]) (by simp [results, Try.results90, go_sem, World.cell?_setCell_other, World.cell?_setCell_same', *]) rfl ?_
        exact ⟨by rw [SK.out, ← HA.out]; rfl, ((HB.out.setCell (by dsimp only; omega) _).setCell (by dsimp only; omega) _).setCell (by dsimp only; omega) _⟩
end Go.Proofs.Ytljfiefobnncaaa

/- Package polygons: closed. -/
namespace Go.Proofs.Ytljfiefobnncaaa
open Go.RowKit

theorem take_snoc (l : List (Int × Int)) (k : Nat) (h : k < l.length) : l.take (k + 1) = l.take k ++ [l.getD k (0, 0)] := by
  rw [List.take_add_one, List.getD_eq_getElem?_getD, List.getElem?_eq_getElem h]; rfl

theorem two_cells (w : World) (a b : Int) (t : TypeId) : ∀ (j : Nat) (u : Value), [Value.int .i64 a, .int .i64 b][j]? = some u → (w.alloc (.cells #[.int .i64 a, .int .i64 b] t)).cell? ((⟨w.heap.size, 0, none⟩ : Addr).add j) = some u := by
  intro j u hj
  match j, hj with
  | 0, hj => simp at hj; subst hj; simp [Addr.add]
  | 1, hj => simp at hj; subst hj; simp [Addr.add]
theorem two_one (a b : Int) : ∀ u ∈ [Value.int .i64 a, .int .i64 b], u.oneCell' = true := by
  intro u hu; simp at hu; rcases hu with rfl | rfl <;> rfl

set_option maxRecDepth 4000 in
set_option maxHeartbeats 2000000 in
theorem closed_any (g n cap : Nat) (l : List (Int × Int)) (hn : n = l.length) (h0 : 0 < n) (hn2 : n ≤ 4356) (w : World) (hP : PtsAt g l w) :
    Calls Try.prog 80 #[.slice (some ⟨g, 0, none⟩) n cap] w fun e w' => ∃ v, e = .returned v ∧ w'.ownsRow w.heap.size 47 2 v (n + 1) (Qm.ptsV (l ++ [Qm.fstP l])) ∧ Below w.heap.size w w' := by
  obtain ⟨i0, hi, hz0, hz1, hz2⟩ := info_parts infoPoint
  have HP := hid hP
  have hg := hP.1
  have HN := hid hn
  clear hP hn
  go_enter Try.func80, Try.ntmps80
  go_wp2_with fail
  go_loopw [3, 4] (fun v iv wr => ∃ k : Nat, k ≤ n ∧ iv = .int .i64 k ∧ wr.ownsRow w.heap.size 47 2 v k (Qm.ptsV (l.take k)) ∧ Below w.heap.size w wr) (fun _ i _ => n - (intOf i).toNat)
  case atStart => exact ⟨0, by omega, rfl, World.ownsRow_nil _ _ _ _, Below.refl _ _⟩
  case round =>
    obtain ⟨k, hk, rfl, hown, hb⟩ := hrel
    have HB := hid hb
    have OW := hid hown
    have hz := hb.size
    by_cases hlt : k < n
    · obtain ⟨r0, r1⟩ := (HP.out.on hb hg).2 k (by have := HN.out; omega)
      have hlt' : (k : Int) < (n : Nat) := by omega
      have TS := hid (take_snoc l k (by have := HN.out; omega))
      obtain ⟨⟨pa, pb⟩, hpp⟩ : ∃ p, p = l.getD k (0, 0) := ⟨_, rfl⟩
      rw [← hpp] at r0 r1 TS
      dsimp only at r0 r1
      have n1 : k + 1 ≤ maxLen := by unfold maxLen; omega
      have n2 : (k + 1) * 16 ≤ 140737488355328 := by omega
      have n3 : w.heap.size ≤ (wr.alloc (.cells #[.int .i64 pa, .int .i64 pb] 47)).heap.size := by simp; omega
      clear hb hpp hown
      go_wp2_with (first
        | (at_builtin; refine wpList_append_own _ rfl _ _ 41 rfl w.heap.size 47 i0 (.agg #[.int .i64 0, .int .i64 0]) 2 16 Try.underlying41 hi hz0 hz1 hz2 rfl (by decide) _ _ _ rfl (OW.out.alloc _) ⟨_, 0, none⟩ 1 1 [.int .i64 pa, .int .i64 pb] rfl rfl (two_cells _ _ _ _) (two_one _ _) n1 n2 n3 ?_))
      intro v' w3 o3 g3 _
      have B3 := hid (show Below w.heap.size w w3 from (HB.out.alloc hz _).grown g3 n3 (fun q hq => (OW.out.lt q hq).1))
      have O3 := hid (show w3.ownsRow w.heap.size 47 2 v' (k + 1) (Qm.ptsV (l.take (k + 1))) by rw [TS.out, Qm.ptsV_snoc]; exact o3)
      clear o3 g3 r0 r1
      go_wp2
      go_roundw
      case rel => exact ⟨k + 1, by omega, by go_num, O3.out, B3.out⟩
      case measure => simp [intOf]; omega
    · have ek : k = n := by omega
      have hn0 : (0 : Int) < (n : Nat) := by omega
      have OW2 := hid (show wr.ownsRow w.heap.size 47 2 _ n (Qm.ptsV l) by rw [ek, show l.take n = l by rw [HN.out]; exact List.take_length] at hown; exact hown)
      obtain ⟨r0, r1⟩ := (HP.out.on hb hg).2 0 (by have := HN.out; omega)
      simp only [Nat.zero_mul, Nat.zero_add] at r0 r1
      have FS := hid (show Qm.fstP l = l.getD 0 (0, 0) from rfl)
      obtain ⟨⟨pa, pb⟩, hpp⟩ : ∃ p, p = l.getD 0 (0, 0) := ⟨_, rfl⟩
      rw [← hpp] at r0 r1 FS
      dsimp only at r0 r1
      have n1 : n + 1 ≤ maxLen := by unfold maxLen; omega
      have n2 : (n + 1) * 16 ≤ 140737488355328 := by omega
      have n3 : w.heap.size ≤ (wr.alloc (.cells #[.int .i64 pa, .int .i64 pb] 47)).heap.size := by simp; omega
      have hk' : ¬ (k : Int) < (n : Nat) := by omega
      clear hb hpp hown ek OW
      go_wp2_with (first
        | (at_builtin; refine wpList_append_own _ rfl _ _ 41 rfl w.heap.size 47 i0 (.agg #[.int .i64 0, .int .i64 0]) 2 16 Try.underlying41 hi hz0 hz1 hz2 rfl (by decide) _ _ _ rfl (OW2.out.alloc _) ⟨_, 0, none⟩ 1 1 [.int .i64 pa, .int .i64 pb] rfl rfl (two_cells _ _ _ _) (two_one _ _) n1 n2 n3 ?_))
      intro v' w3 o3 g3 _
      have B3 := hid (show Below w.heap.size w w3 from (HB.out.alloc hz _).grown g3 n3 (fun q hq => (OW2.out.lt q hq).1))
      have O3 := hid (show w3.ownsRow w.heap.size 47 2 v' (n + 1) (Qm.ptsV (l ++ [Qm.fstP l])) by rw [Qm.ptsV_snoc, FS.out]; exact o3)
      clear o3 g3 r0 r1
      go_wp2
      go_ret
      exact ⟨_, rfl, O3.out, B3.out⟩
end Go.Proofs.Ytljfiefobnncaaa

/- Package polygons: bestRows. -/
namespace Go.Proofs.Ytljfiefobnncaaa
open Go.RowKit

namespace Qm
theorem accR_in {l : List Pt} {B : List Rw} (hs : Small l) {M C : Int} (hM : 0 ≤ M) (hC : 0 ≤ C) (h : ∀ j, 0 ≤ (B.getD j (0, 0, 0)).1 ∧ (B.getD j (0, 0, 0)).1 ≤ M ∧ 0 ≤ (B.getD j (0, 0, 0)).2.1 ∧ (B.getD j (0, 0, 0)).2.1 ≤ C) : ∀ k, k ≤ 12 → 0 ≤ (accR l B k).1 ∧ (accR l B k).1 ≤ M + 1 ∧ 0 ≤ (accR l B k).2.1 ∧ (accR l B k).2.1 ≤ C + 28672
  | 0, _ => by simp only [accR]; omega
  | k + 1, hk => by
    have ih := accR_in hs hM hC h k (by omega)
    have hB := h (B.length - (k + 1))
    have c := costOf_in (hs.take (k + 2))
    have ln : ((l.take (k + 2)).length : Int) ≤ 14 := by rw [List.length_take]; omega
    simp only [accR]
    split
    · dsimp only; omega
    · exact ih
theorem rowsTo_in {v : List Pt} (hs : Small v) (m : Nat) : ∀ j, 0 ≤ ((rowsTo v m).getD j (0, 0, 0)).1 ∧ ((rowsTo v m).getD j (0, 0, 0)).1 ≤ m ∧ 0 ≤ ((rowsTo v m).getD j (0, 0, 0)).2.1 ∧ ((rowsTo v m).getD j (0, 0, 0)).2.1 ≤ 28672 * m := by
  induction m with
  | zero => intro j; simp [rowsTo]
  | succ m ih =>
    intro j
    have a := accR_in (hs.drop (v.length - 1 - m)) (by omega) (by omega) ih (spn (m + 1) m) (by unfold spn; omega)
    have ij := ih j
    simp only [rowsTo, List.getD_eq_getElem?_getD, List.getElem?_append, rowsTo_len] at ij ⊢
    split
    · omega
    · cases hjm : j - m with
      | zero => simp only [List.getElem?_cons_zero, Option.getD_some]; omega
      | succ q => simp; omega
end Qm

def rwL (r : Qm.Rw) : List Value := [.int .i64 r.1, .int .i64 r.2.1, .int .i64 r.2.2]
def rwsV (B : List Qm.Rw) : List Value := B.flatMap rwL
theorem rwsV_snoc (B : List Qm.Rw) (r : Qm.Rw) : rwsV (B ++ [r]) = rwsV B ++ rwL r := by simp [rwsV]
theorem rwsV_at (B : List Qm.Rw) : ∀ j, j < B.length → (rwsV B)[j * 3]? = some (.int .i64 (B.getD j (0, 0, 0)).1) ∧ (rwsV B)[j * 3 + 1]? = some (.int .i64 (B.getD j (0, 0, 0)).2.1) ∧ (rwsV B)[j * 3 + 2]? = some (.int .i64 (B.getD j (0, 0, 0)).2.2) := by
  induction B with
  | nil => intro j hj; simp at hj
  | cons p B ih =>
    intro j hj
    have e : rwsV (p :: B) = .int .i64 p.1 :: .int .i64 p.2.1 :: .int .i64 p.2.2 :: rwsV B := by simp [rwsV, rwL]
    cases j with
    | zero => rw [e]; simp
    | succ j =>
      have := ih j (by simpa using hj)
      rw [e, show (j + 1) * 3 = j * 3 + 1 + 1 + 1 from by omega, show j * 3 + 1 + 1 + 1 + 1 = (j * 3 + 1) + 1 + 1 + 1 from by omega, show j * 3 + 1 + 1 + 1 + 2 = (j * 3 + 2) + 1 + 1 + 1 from by omega]
      simpa using this
theorem own_rows {w : World} {b : Nat} {t : TypeId} {v : Value} {B : List Qm.Rw} {n : Nat} (h : w.ownsRow b t 3 v n (rwsV B)) : ∃ ao cap, v = .slice ao n cap ∧ (n = 0 ∨ ∃ gb, ao = some ⟨gb, 0, none⟩ ∧ RowsAt gb B w) := by
  rcases h.2 with ⟨rfl, h0⟩ | ⟨g, cap, cur, rfl, hb, hg, _, _, _, _⟩
  · subst h0; exact ⟨_, _, rfl, .inl rfl⟩
  · refine ⟨_, cap, rfl, .inr ⟨g, rfl, (Array.getElem?_eq_some_iff.1 hg).1, fun j hj => ?_⟩⟩
    have c := fun j u hu => h.cells (g := g) rfl j u hu
    have p := rwsV_at B j hj
    have a1 := c _ _ p.1
    have a2 := c _ _ p.2.1
    have a3 := c _ _ p.2.2
    rw [add_zero_at] at a1 a2 a3
    exact ⟨a1, a2, a3⟩
theorem three_cells (w : World) (a b c : Int) (t : TypeId) : ∀ (j : Nat) (u : Value), [Value.int .i64 a, .int .i64 b, .int .i64 c][j]? = some u → (w.alloc (.cells #[.int .i64 a, .int .i64 b, .int .i64 c] t)).cell? ((⟨w.heap.size, 0, none⟩ : Addr).add j) = some u := by
  intro j u hj
  match j, hj with
  | 0, hj => simp at hj; subst hj; simp [Addr.add]
  | 1, hj => simp at hj; subst hj; simp [Addr.add]
  | 2, hj => simp at hj; subst hj; simp [Addr.add]
theorem three_at (B : Nat) (w : World) (a b c : Int) (t : TypeId) (hB : B = w.heap.size) : ∀ (j : Nat) (u : Value), [Value.int .i64 a, .int .i64 b, .int .i64 c][j]? = some u → (w.alloc (.cells #[.int .i64 a, .int .i64 b, .int .i64 c] t)).cell? ((⟨B, 0, none⟩ : Addr).add j) = some u := by
  subst hB; exact three_cells w a b c t
theorem three_one (a b c : Int) : ∀ u ∈ [Value.int .i64 a, .int .i64 b, .int .i64 c], u.oneCell' = true := by
  intro u hu; simp at hu; rcases hu with rfl | rfl | rfl <;> rfl
theorem own_cap' {w : World} {b : Nat} {t : TypeId} {z : Nat} {v : Value} {n : Nat} {xs : List Value} (h : w.ownsRow b t z v n xs) : ∃ ao cap, v = .slice ao n cap ∧ n ≤ cap := by
  rcases h.2 with ⟨rfl, rfl⟩ | ⟨g, cap, cur, rfl, _, _, h1, _⟩
  · exact ⟨_, _, rfl, Nat.le_refl _⟩
  · exact ⟨_, _, rfl, h1⟩
theorem infoRow : (Try.prog.info? 113).map (fun i => (i.zero, i.size, i.bytes)) = some (some (.agg #[.int .i64 0, .int .i64 0, .int .i64 0]), 3, 24) := by kernel_rfl

set_option maxRecDepth 4000 in
set_option maxHeartbeats 2000000 in
theorem bestRows_any (g N cap : Nat) (v : List (Int × Int)) (hn : N = v.length) (h0 : 0 < N) (hcap : N ≤ cap) (hs : Qm.Small v) (hn2 : N ≤ 4357) (w : World) (hP : PtsAt g v w) :
    Calls Try.prog 81 #[.slice (some ⟨g, 0, none⟩) N cap] w fun e w' => ∃ vr, e = .returned vr ∧ w'.ownsRow w.heap.size 113 3 vr N (rwsV (Qm.rowsTo v N)) ∧ Below w.heap.size w w' := by
  obtain ⟨i0, hi, hz0, hz1, hz2⟩ := info_parts infoRow
  have HP := hid hP
  have hg := hP.1
  have HN := hid hn
  have HS := hid hs
  clear hP hn hs
  go_enter Try.func81, Try.ntmps81
  go_wp2_with fail
  go_loopw [3, 4] (fun vr iv wr => ∃ m : Nat, m ≤ N ∧ iv = .int .i64 ((N : Int) - 1 - (m : Nat)) ∧ wr.ownsRow w.heap.size 113 3 vr m (rwsV (Qm.rowsTo v m)) ∧ Below w.heap.size w wr) (fun _ i _ => (intOf i + 1).toNat)
  case atStart => exact ⟨0, by omega, by go_num, World.ownsRow_nil _ _ _ _, Below.refl _ _⟩
  case round =>
    obtain ⟨m, hm, rfl, hown, hb⟩ := hrel
    have HB := hid hb
    have OW := hid hown
    have hz := hb.size
    by_cases hlt : m < N
    · obtain ⟨q, hq⟩ : ∃ q, q = N - 1 - m := ⟨_, rfl⟩
      have e1 : (N : Int) - 1 - (m : Nat) = (q : Nat) := by omega
      have e2 : (0 : Int) ≤ (q : Nat) := by omega
      have e3 : (q : Int) ≤ (N : Nat) := by omega
      have e4 : q ≤ cap := by omega
      have e5 : q ≤ N := by omega
      have e6 : N - q = m + 1 := by omega
      obtain ⟨ao, capb, rfl, hrow⟩ := own_rows hown
      have BRH := hid (show ∀ W', Below w.heap.size w W' → (m = 0 ∨ ∃ gb, ao = some ⟨gb, 0, none⟩ ∧ RowsAt gb (Qm.rowsTo v m) W') → Calls Try.prog 90 #[.slice (some ⟨g, q * 2, none⟩) (m + 1) (cap - q), .slice ao m capb] W' fun e w' => e = .returned (rwV (Qm.accR (v.drop q) (Qm.rowsTo v m) (Qm.spn (m + 1) m))) ∧ Below W'.heap.size W' w' from fun W' h hr => by
        have p := ((HP.out.o).on h hg).drop q
        rw [Nat.zero_add] at p
        exact bestRow_any g (q * 2) (m + 1) (cap - q) (v.drop q) (by rw [List.length_drop, ← HN.out]; omega) (by omega) (by omega) (HS.out.drop q) (by omega) ao m capb (Qm.rowsTo v m) (Qm.rowsTo_len v m).symm (by omega) W' p hr (fun j => by have := Qm.rowsTo_in HS.out m j; omega))
      have RT := hid (show Qm.rowsTo v (m + 1) = Qm.rowsTo v m ++ [Qm.accR (v.drop q) (Qm.rowsTo v m) (Qm.spn (m + 1) m)] by rw [hq, HN.out]; rfl)
      obtain ⟨⟨ra, rb, rc⟩, hrr⟩ : ∃ r, r = Qm.accR (v.drop q) (Qm.rowsTo v m) (Qm.spn (m + 1) m) := ⟨_, rfl⟩
      rw [← hrr] at BRH RT
      have HRW := hid hrow
      have HQ := hid hq
      unfold rwV at BRH
      dsimp only at BRH
      clear hb hown hrr hrow hq
      rw [e1]
      go_wp2_with fail
      refine (BRH.out _ HB.out HRW.out).mono ?_
      rintro e w1 ⟨rfl, hb1⟩
      have B1 := hid (show Below w.heap.size w w1 from HB.out.trans (hb1.mono hz))
      have O1 := hid (own_below OW.out hb1)
      have z1 := B1.out.size
      clear hb1
      have n1 : m + 1 ≤ maxLen := by unfold maxLen; omega
      have n2 : (m + 1) * 24 ≤ 140737488355328 := by omega
      have n3 : w.heap.size ≤ ((w1.alloc (.cells #[.int .i64 ra, .int .i64 rb, .int .i64 rc] 113)).alloc (.cells #[.int .i64 ra, .int .i64 rb, .int .i64 rc] 113)).heap.size := by simp; omega
      go_wp2_with (first
        | (at_builtin; refine wpList_append_own _ rfl _ _ 110 rfl w.heap.size 113 i0 (.agg #[.int .i64 0, .int .i64 0, .int .i64 0]) 3 24 Try.underlying110 hi hz0 hz1 hz2 rfl (by decide) _ _ _ rfl ((O1.out.alloc _).alloc _) ⟨_, 0, none⟩ 1 1 [.int .i64 ra, .int .i64 rb, .int .i64 rc] rfl rfl (three_at _ _ _ _ _ _ (by simp)) (three_one _ _ _) n1 n2 n3 ?_))
      intro v' w3 o3 g3 _
      have B3 := hid (show Below w.heap.size w w3 from ((B1.out.alloc z1 _).alloc (by simp; omega) _).grown g3 n3 (fun q hq => (O1.out.lt q hq).1))
      have O3 := hid (show w3.ownsRow w.heap.size 113 3 v' (m + 1) (rwsV (Qm.rowsTo v (m + 1))) by rw [RT.out, rwsV_snoc]; exact o3)
      clear o3 g3
      go_wp2
      go_roundw
      case rel => exact ⟨m + 1, by omega, by have := HQ.out; go_num, O3.out, B3.out⟩
      case measure => simp [intOf]
    · have em : m = N := by omega
      have e1 : (N : Int) - 1 - (m : Nat) = -1 := by omega
      subst em
      rw [e1]
      go_wp2
      go_ret
      exact ⟨_, rfl, OW.out, HB.out⟩
end Go.Proofs.Ytljfiefobnncaaa
