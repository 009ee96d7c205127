/- Package polygons: fits. -/
import Derived.Test.YtljfiefobnncaabK13
namespace Go.Proofs.Ytljfiefobnncaab
open Go.RowKit

theorem fit_no {l : List (Int × Int)} {x y : Int} (h1 : Qm.loF Prod.fst l l.length ≤ x) (h2 : x < Qm.hiF Prod.fst l l.length) (h3 : Qm.loF Prod.snd l l.length ≤ y) (h4 : y < Qm.hiF Prod.snd l l.length) (h : Qm.okAt l x y = false) : Qm.fitB l = false := by
  cases hf : Qm.fitB l with
  | false => rfl
  | true => rw [(Qm.fitB_iff l).1 hf x y h1 h2 h3 h4] at h; simp at h

set_option maxRecDepth 4000 in
set_option maxHeartbeats 2000000 in
theorem fits_any (g o n cap : Nat) (l : List (Int × Int)) (hn : n = l.length) (h0 : 0 < n) (hs : Qm.Small l) (hn2 : n ≤ 4357) (w : World) (hP : PtsO g o l w) :
    Calls Try.prog 41 #[.slice (some ⟨g, o, none⟩) n cap] w fun e w' => e = .returned (.bool (Qm.fitB l)) ∧ Below w.heap.size w w' := by
  have HP := hid hP
  have hg := hP.1
  have HN := hid hn
  obtain ⟨q0, q1⟩ := hP.2 0 (by omega)
  obtain ⟨t0, t1⟩ := hP.2 (n - 1) (by omega)
  simp only [Nat.zero_mul, Nat.add_zero] at q0 q1
  have sa := small_in hs 0
  have sz := small_in hs (n - 1)
  have li := Qm.loF_in hs n
  have hi := Qm.hiF_in hs n
  have FI := hid (Qm.fitB_iff l)
  have FN := hid (fun x y => fit_no (l := l) (x := x) (y := y))
  have OK := hid (fun x y => show Qm.okAt l x y = (!Qm.thB (l.getD (n - 1) (0, 0)) (l.getD 0 (0, 0)) x y && decide (Qm.wsum l x y n = 0)) by rw [hn]; rfl)
  rw [← hn] at FI FN
  obtain ⟨n1, hn1⟩ : ∃ n1, n = n1 + 1 := ⟨n - 1, by omega⟩
  subst hn1
  simp only [Nat.add_sub_cancel] at t0 t1 sz OK
  obtain ⟨⟨fa, fb⟩, hff⟩ : ∃ p, p = l.getD 0 (0, 0) := ⟨_, rfl⟩
  obtain ⟨⟨za, zb⟩, hzz⟩ : ∃ p, p = l.getD n1 (0, 0) := ⟨_, rfl⟩
  rw [← hff] at q0 q1 sa OK
  rw [← hzz] at t0 t1 sz OK
  dsimp only at q0 q1 t0 t1
  have BO := hid (fun W' (h : PtsO g o l W') => bounds_any g o (n1 + 1) cap l HN.out h0 hn2 W' h)
  have GT := hid (fun x y (a : -32 ≤ x) (b : x ≤ 64) (c : -32 ≤ y) (d : y ≤ 64) W' => through_any (za, zb) (fa, fb) x y sz sa a b c d W')
  have WI := hid (fun x y (a : -32 ≤ x) (b : x ≤ 64) (c : -32 ≤ y) (d : y ≤ 64) W' (h : PtsO g o l W') => winding_any g o (n1 + 1) cap l HN.out h0 hs hn2 x y a b c d W' h)
  obtain ⟨lx, hlx⟩ : ∃ v, v = Qm.loF Prod.fst l (n1 + 1) := ⟨_, rfl⟩
  obtain ⟨ly, hly⟩ : ∃ v, v = Qm.loF Prod.snd l (n1 + 1) := ⟨_, rfl⟩
  obtain ⟨hx, hhx⟩ : ∃ v, v = Qm.hiF Prod.fst l (n1 + 1) := ⟨_, rfl⟩
  obtain ⟨hy, hhy⟩ : ∃ v, v = Qm.hiF Prod.snd l (n1 + 1) := ⟨_, rfl⟩
  rw [← hlx, ← hly] at li
  rw [← hhx, ← hhy] at hi
  rw [← hlx, ← hly, ← hhx, ← hhy] at FI FN BO
  have e0 : ((n1 : Int) + 1 == 0) = false := by simp; omega
  have hg2 : g < w.heap.size + 1 := by omega
  have hg3 : g < w.heap.size + 1 + 1 := by omega
  dsimp only at GT
  clear hP hn hff hzz hlx hly hhx hhy sa sz
  go_enter Try.func41, Try.ntmps41
  go_wp2_with fail
  refine (BO.out _ (HP.out.on (B := w.heap.size) (by go_grown) hg)).mono ?_
  rintro e w2 ⟨rfl, hb⟩
  have B2 := hid (show Below w.heap.size w w2 from Below.trans (b := _) (by go_grown) (hb.mono (by simp; omega)))
  have z2 := hb.size
  simp at z2
  have X0 : BoxP w.heap.size (fa, fb) w2 := BoxP.on ((BoxP.new _ rfl).alloc _) hb (by simp; omega)
  have X1 : BoxP (w.heap.size + 1) (za, zb) w2 := BoxP.on (BoxP.new _ (by simp)) hb (by simp)
  clear hb q0 q1 t0 t1
  have X0H := hid X0
  have X1H := hid X1
  obtain ⟨B3, hB3⟩ : ∃ B3, B3 = w2.heap.size := ⟨_, rfl⟩
  have zB : w.heap.size + 1 < B3 := by omega
  go_wp2_with fail
  rw [← hB3]
  have HB3 := hid hB3
  clear hB3
  go_loopw [7] (fun yv wr => ∃ y : Int, yv = .int .i64 y ∧ ly ≤ y ∧ (y = ly ∨ y ≤ hy) ∧ (∀ x' y', lx ≤ x' → x' < hx → ly ≤ y' → y' < y → Qm.okAt l x' y' = true) ∧ BoxP w.heap.size (fa, fb) wr ∧ BoxP (w.heap.size + 1) (za, zb) wr ∧ BoxP B3 (lx, ly) wr ∧ BoxP (B3 + 1) (hx, hy) wr ∧ Below w.heap.size w wr) (fun y _ => (hy - intOf y).toNat)
  case atStart => exact ⟨ly, rfl, by omega, .inl rfl, fun _ _ _ _ _ _ => by omega, (X0H.out.alloc _).alloc _, (X1H.out.alloc _).alloc _, (BoxP.new _ HB3.out).alloc _, BoxP.new _ (by simp [HB3.out]), (B2.out.alloc (by omega) _).alloc (by simp; omega) _⟩
  case round =>
    clear X0 X1 X0H X1H B2
    obtain ⟨y, rfl, hy0, hy1, hok, x0, x1, x2, x3, hb⟩ := hrel
    have OKS := hid hok
    have HB := hid hb
    have X0 := hid x0
    have X1 := hid x1
    have X2 := hid x2
    have X3 := hid x3
    obtain ⟨a0, a1, -, -, a4⟩ := x0
    obtain ⟨b0, b1, -, -, b4⟩ := x1
    obtain ⟨c0, c1, -, -, c4⟩ := x2
    obtain ⟨d0, d1, -, -, d4⟩ := x3
    dsimp only at a0 a1 b0 b1 c0 c1 d0 d1
    clear hok hb
    by_cases hlt : y < hy
    · go_wp2_with fail
      clear a0 a1 b0 b1 c0 c1 d0 d1 a4 b4 c4 d4
      go_loopw [8] (fun xv wr => ∃ x : Int, xv = .int .i64 x ∧ lx ≤ x ∧ (x = lx ∨ x ≤ hx) ∧ (∀ x', lx ≤ x' → x' < x → Qm.okAt l x' y = true) ∧ BoxP w.heap.size (fa, fb) wr ∧ BoxP (w.heap.size + 1) (za, zb) wr ∧ BoxP B3 (lx, ly) wr ∧ BoxP (B3 + 1) (hx, hy) wr ∧ Below w.heap.size w wr) (fun x _ => (hx - intOf x).toNat)
      case atStart => exact ⟨lx, rfl, by omega, .inl rfl, fun _ _ _ => by omega, X0.out, X1.out, X2.out, X3.out, HB.out⟩
      case round =>
        clear X0 X1 X2 X3 HB
        obtain ⟨x, rfl, hx0, hx1, hok, x0, x1, x2, x3, hb⟩ := hrel
        have OKX := hid hok
        have HB := hid hb
        have X0 := hid x0
        have X1 := hid x1
        have X2 := hid x2
        have X3 := hid x3
        obtain ⟨a0, a1, -, -, a4⟩ := x0
        obtain ⟨b0, b1, -, -, b4⟩ := x1
        obtain ⟨c0, c1, -, -, c4⟩ := x2
        obtain ⟨d0, d1, -, -, d4⟩ := x3
        dsimp only at a0 a1 b0 b1 c0 c1 d0 d1
        clear hok hb
        by_cases hlx : x < hx
        · have ok := hid (OK.out x y)
          obtain ⟨t, ht⟩ : ∃ t, Qm.thB (za, zb) (fa, fb) x y = t := ⟨_, rfl⟩
          have gt := GT.out x y (by omega) (by omega) (by omega) (by omega)
          rw [ht] at gt ok
          have GTX := hid gt
          clear gt ht
          go_wp2_with fail
          refine (GTX.out _).mono ?_
          rintro e w3 ⟨rfl, hb3⟩
          have B3' := hid (show Below w.heap.size w w3 from HB.out.trans (hb3.mono HB.out.size))
          have Y0 := hid (X0.out.on hb3 a4)
          have Y1 := hid (X1.out.on hb3 b4)
          have Y2 := hid (X2.out.on hb3 c4)
          have Y3 := hid (X3.out.on hb3 d4)
          clear hb3 a0 a1 b0 b1 c0 c1 d0 d1
          cases t
          · go_wp2_with fail
            refine (WI.out x y (by omega) (by omega) (by omega) (by omega) _ (HP.out.on B3'.out hg)).mono ?_
            rintro e w4 ⟨rfl, hb4⟩
            have z3 := B3'.out.size
            have B4 := hid (show Below w.heap.size w w4 from B3'.out.trans (hb4.mono z3))
            have Z0 := hid (Y0.out.on hb4 Y0.out.2.2.2.2)
            have Z1 := hid (Y1.out.on hb4 Y1.out.2.2.2.2)
            have Z2 := hid (Y2.out.on hb4 Y2.out.2.2.2.2)
            have Z3 := hid (Y3.out.on hb4 Y3.out.2.2.2.2)
            clear hb4
            obtain ⟨v, hv⟩ : ∃ v, Qm.wsum l x y (n1 + 1) = v := ⟨_, rfl⟩
            rw [hv] at ok ⊢
            clear hv
            by_cases hv0 : v = 0
            · subst hv0
              have okt : Qm.okAt l x y = true := by rw [ok.out]; rfl
              have OKT := hid okt
              clear okt
              go_wp2
              go_roundw
              case rel =>
                refine ⟨x + 1, by go_num, by omega, .inr (by omega), fun x' h1 h2 => ?_, Z0.out, Z1.out, Z2.out, Z3.out, B4.out⟩
                rcases Int.lt_or_le x' x with h3 | h3
                · exact OKX.out x' h1 h3
                · rw [show x' = x from by omega]; exact OKT.out
              case measure => simp [intOf]; omega
            · have ok0 : Qm.okAt l x y = false := by rw [ok.out]; simpa using hv0
              have FF := hid (FN.out x y hx0 hlx hy0 hlt ok0)
              have dv : (v == 0) = false := by simpa using hv0
              clear ok0
              go_wp2
              go_ret
              exact ⟨ret_bool FF.out.symm, B4.out⟩
          · have ok0 : Qm.okAt l x y = false := by rw [ok.out]; rfl
            have FF := hid (FN.out x y hx0 hlx hy0 hlt ok0)
            clear ok0
            go_wp2
            go_ret
            exact ⟨ret_bool FF.out.symm, B3'.out⟩
        · go_wp2
          go_roundw
          case rel =>
            refine ⟨y + 1, by go_num, by omega, .inr (by omega), fun x' y' h1 h2 h3 h4 => ?_, X0.out, X1.out, X2.out, X3.out, HB.out⟩
            rcases Int.lt_or_le y' y with h5 | h5
            · exact OKS.out x' y' h1 h2 h3 h5
            · rw [show y' = y from by omega]; exact OKX.out x' h1 (by omega)
          case measure => simp [intOf]; omega
    · have FT := hid (show Qm.fitB l = true from FI.out.2 fun x' y' h1 h2 h3 h4 => OKS.out x' y' h1 h2 h3 (by omega))
      go_wp2
      go_ret
      exact ⟨ret_bool FT.out.symm, HB.out⟩
end Go.Proofs.Ytljfiefobnncaab
