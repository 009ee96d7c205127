/- outlinekeep: Counted. -/
import Derived.Test.YtljfiefobnncaaaK32
import Derived.Test.YtljfiefobnncaaaK25
namespace Go.Proofs.Ytljfiefobnncaaa
open Go.RowKit
attribute [local go_sem ↓] Go.wp_at_zero Go.wp_at_succ

namespace Qm
/-- How many of the first i cycles go round black. -/
def cntD (R : List (Sd × Nat)) (i : Nat) : Nat := ((R.take i).filter fun c => decide (c.1.2.2 = 0)).length
theorem cntD_zero (R : List (Sd × Nat)) : cntD R 0 = 0 := rfl
theorem cntD_le (R : List (Sd × Nat)) (i : Nat) : cntD R i ≤ i := by
  unfold cntD
  exact Nat.le_trans (List.length_filter_le _ _) (by rw [List.length_take]; omega)
theorem cntD_yes {R : List (Sd × Nat)} {i : Nat} (hi : i < R.length) (h : R[i].1.2.2 = 0) : cntD R (i + 1) = cntD R i + 1 := by
  unfold cntD
  rw [take_next hi, List.filter_append, List.length_append]
  simp [h]
theorem cntD_no {R : List (Sd × Nat)} {i : Nat} (hi : i < R.length) (h : R[i].1.2.2 ≠ 0) : cntD R (i + 1) = cntD R i := by
  unfold cntD
  rw [take_next hi, List.filter_append, List.length_append]
  simp [h]
theorem two_kinds : ∀ (R : List (Sd × Nat)), (∀ c ∈ R, c.1.2.2 = 0 ∨ c.1.2.2 = 1) → (R.filter fun c => decide (c.1.2.2 = 0)).length + (R.filter fun c => decide (c.1.2.2 = 1)).length = R.length
  | [], _ => rfl
  | c :: R, h => by
    have ih := two_kinds R fun c hc => h c (List.mem_cons_of_mem _ hc)
    rcases h c List.mem_cons_self with e | e <;> simp [e] <;> omega
end Qm

set_option maxRecDepth 4000 in
set_option maxHeartbeats 4000000 in
theorem counted_any (ao : Option Addr) (len cap : Nat) (a h : Int) (j : Bool) (w : World) (hraw : RawIs ao len w) (hlen : len ≤ 140737488355328) (a1 : -9223372036854775808 ≤ a) (a2 : a ≤ 9223372036854775807) (h1 : -9223372036854775808 ≤ h) (h2 : h ≤ 9223372036854775807) :
    Calls Try.prog 5 #[.slice ao len cap, .int .i64 a, .int .i64 h, .bool j] w fun e w' => e = .returned (.bool true) ∧ Below w.heap.size w w' := by
  have RW := hid hraw
  clear hraw
  go_enter Try.func5, Try.ntmps5
  go_wp2_with fail
  refine (works_any _).mono ?_
  rintro e w1 ⟨rfl, hb⟩
  have B1 := hid (show Below w.heap.size w w1 from hb)
  clear hb
  go_wp2_with fail
  refine (built_core ao len cap a h _ (RW.out.on B1.out) hlen a1 a2 h1 h2).mono ?_
  rintro e w2 ⟨⟨W, H, l, rfl, W1, W2, H1, H2, hl, hall⟩, hb⟩
  have MAY := hid (fun (pol : Nat) (hp : pol ≤ 3) => show mayB W H (⟨l.toArray⟩ : ByteArray).data.toList pol 0 = true from may_of (good_of W1 W2 H1 H2 hl hall) (by omega) (by omega) (by omega) (by omega))
  have HL := hid (show (⟨l.toArray⟩ : ByteArray).size = W * H from hl)
  have B2 := hid (show Below w.heap.size w w2 from B1.out.trans (hb.mono B1.out.size))
  clear hall hl hb RW
  obtain ⟨s, hs⟩ : ∃ s : ByteArray, s = ⟨l.toArray⟩ := ⟨_, rfl⟩
  rw [← hs] at MAY HL ⊢
  clear hs
  cases j
  · go_wp2_with fail
    refine (cycles_yes W H s 1 _ 0 _ (MAY.out 1 (by omega)) W2 H2 HL.out (by omega)).mono ?_
    rintro e w4 ⟨vl, rfl, L, hR, hRow, hb4, hLn⟩
    have SH := hid (show Shown (Qm.nx (Pm.blackB W H s.data.toList) fun _ _ => false) vl L w4 from hRow.shown (fun q hq => (hR.1 q.2 (List.mem_map_of_mem hq)).1.2.1))
    have BM := hid (Bmp.on (b := w2.heap.size) (W := W) (H := H) (s := s) (by refine ⟨?_, ?_, ?_, ?_⟩ <;> simp [go_sem]) hb4 (by simp; omega))
    have A4 := hid (show Below w2.heap.size w2 w4 from Below.trans (b := _) (by go_grown) (hb4.mono (by simp; omega)))
    have RES := hid (show Qm.Res (Qm.nx (Pm.blackB W H s.data.toList) fun _ _ => false) (fun t => Qm.isS (Pm.blackB W H s.data.toList) t = true) Qm.key (L.map (·.2)) from hR)
    have hLn' : L.length ≤ 1200 := hLn
    clear hR hRow hb4 hLn
    obtain ⟨al, cl, rfl, hrow⟩ := SH.out.row
    have HROW := hid hrow
    clear hrow
    obtain ⟨R, hRR⟩ : ∃ R, R = L.map (·.2) := ⟨_, rfl⟩
    rw [← hRR] at RES
    have RR := hid hRR
    clear hRR
    have RL := hid (show R.length = L.length by rw [RR.out, List.length_map])
    have PIC := hid (Qm.pic_of W H s.data.toList W2 H2)
    have E1 := hid (Qm.blacks PIC.out W2 RES.out)
    have E2 := hid (Qm.whites PIC.out W2 RES.out)
    have E3 := hid (Qm.two_kinds R fun c hc => (RES.out.1 c hc).dir)
    have SGN := hid (show ∀ i (hi : i < R.length), (R[i].1.2.2 = 0 ∧ 0 < Qm.twiceOf (Qm.ptsOf (Qm.nx (Pm.blackB W H s.data.toList) fun _ _ => false) R[i])) ∨ (R[i].1.2.2 ≠ 0 ∧ Qm.twiceOf (Qm.ptsOf (Qm.nx (Pm.blackB W H s.data.toList) fun _ _ => false) R[i]) < 0) from fun i hi => by
      have can := RES.out.1 R[i] (List.getElem_mem hi)
      have t := can.1.twice_ne PIC.out
      have f := can.first PIC.out
      rcases can.dir with e | e
      · have := (f.1 e).2.2; left; exact ⟨e, by omega⟩
      · have := (f.2 e).2.2; right; exact ⟨by omega, by omega⟩)
    obtain ⟨n, hn⟩ : ∃ n, n = L.length := ⟨_, rfl⟩
    rw [← hn] at hLn' HROW RL ⊢
    have B4 := hid (B2.out.trans (A4.out.mono B2.out.size))
    clear hn
    obtain ⟨bw0, bw1, bw2, bw3⟩ := BM.out
    go_wp2_with fail
    refine (pieces_any W H s _ _ W1 W2 H1 H2 HL.out).mono ?_
    rintro e w5 ⟨rfl, hb5⟩
    have A5 := hid hb5
    have B5 := hid (B4.out.trans (hb5.mono B4.out.size))
    clear hb5 bw0 bw1 bw2 bw3
    obtain ⟨pb, hpb⟩ : ∃ pb, pb = Qm.cntC (Pm.blackB W H s.data.toList) false W H true ((W + 2) * (H + 2)) := ⟨_, rfl⟩
    obtain ⟨pw, hpw⟩ : ∃ pw, pw = Qm.cntC (Pm.blackB W H s.data.toList) false W H false ((W + 2) * (H + 2)) := ⟨_, rfl⟩
    have F1 := hid (show Qm.cntD R n = pb by rw [hpb]; exact (show Qm.cntD R n = _ by unfold Qm.cntD; rw [List.take_of_length_le (by rw [RL.out]; exact Nat.le_refl _)]).trans E1.out)
    have F2 := hid (show pb + pw = n + 1 by
      have e1 := E1.out
      have e2 := E2.out
      have e3 := E3.out
      rw [RL.out] at e3
      have p1 : pb = (R.filter fun c => decide (c.1.2.2 = 0)).length := hpb.trans E1.out.symm
      have p2 : (R.filter fun c => decide (c.1.2.2 = 1)).length + 1 = pw := E2.out.trans hpw.symm
      omega)
    rw [← hpb, ← hpw]
    clear hpb hpw
    have pb1 : pb ≤ 1201 := by have := F2.out; omega
    have pw1 : pw ≤ 1201 := by have := F2.out; omega
    go_wp2_with fail
    go_loopw [16, 17] (fun nv iv wr => ∃ i : Nat, i ≤ n ∧ iv = .int .i64 i ∧ nv = .int .i64 (Qm.cntD R i : Nat) ∧ wr = w5) (fun _ i _ => n - (intOf i).toNat)
    case atStart => exact ⟨0, by omega, rfl, rfl, rfl⟩
    case round =>
      obtain ⟨i, hin, rfl, rfl, rfl⟩ := hrel
      have dl := Qm.cntD_le R i
      by_cases hlt : i < n
      · obtain ⟨gl, rfl, hgl, hc⟩ := HROW.out.resolve_left (by omega)
        have hiR : i < R.length := by rw [RL.out]; exact hlt
        obtain ⟨g, c, m0, hpt, c0, c1⟩ := SH.out.at RR.out hc hiR
        have c1' := (A5.out.cell (p := ⟨gl, i * 2 + 1, none⟩) hgl).trans c1
        have sg := SGN.out i hiR
        have DY := hid (Qm.cntD_yes hiR)
        have DN := hid (Qm.cntD_no hiR)
        obtain ⟨tw, htw⟩ : ∃ tw, tw = Qm.twiceOf (Qm.ptsOf (Qm.nx (Pm.blackB W H s.data.toList) fun _ _ => false) R[i]) := ⟨_, rfl⟩
        rw [← htw] at c1' sg
        obtain ⟨dd, hdd⟩ : ∃ dd, dd = R[i].1.2.2 := ⟨_, rfl⟩
        rw [← hdd] at sg DY DN
        obtain ⟨dn, hdn⟩ : ∃ dn, dn = Qm.cntD R i := ⟨_, rfl⟩
        rw [← hdn] at DY DN dl ⊢
        clear htw c0 c1 hpt m0 hc hiR hdd hdn
        have k0 : (0 : Int) ≤ (i : Nat) := by omega
        have k1 : ((i : Nat) : Int) < (n : Nat) := by omega
        have hg5 : gl < wr.heap.size := Nat.lt_of_lt_of_le hgl A5.out.size
        rcases sg with ⟨s1, s2⟩ | ⟨s1, s2⟩
        · have D1 := hid (DY.out s1)
          clear s1
          go_wp2
          go_roundw
          case rel => exact ⟨i + 1, by omega, by go_num, by rw [D1.out]; go_num, by trivial⟩
          case measure => simp [intOf]; omega
        · have D1 := hid (DN.out s1)
          have s3 : ¬ 0 < tw := by omega
          clear s1
          go_wp2
          go_roundw
          case rel => exact ⟨i + 1, by omega, by go_num, by rw [D1.out], by trivial⟩
          case measure => simp [intOf]; omega
      · obtain rfl : i = n := by omega
        rw [F1.out]
        have hB : (i : Int) - (pb : Nat) = (pw : Int) - 1 := by have := F2.out; omega
        go_wp2
        go_ret
        exact ⟨by rfl, B5.out⟩
  · go_wp2_with fail
    refine (cycles_yes W H s 0 _ 0 _ (MAY.out 0 (by omega)) W2 H2 HL.out (by omega)).mono ?_
    rintro e w4 ⟨vl, rfl, L, hR, hRow, hb4, hLn⟩
    have SH := hid (show Shown (Qm.nx (Pm.blackB W H s.data.toList) fun _ _ => true) vl L w4 from hRow.shown (fun q hq => (hR.1 q.2 (List.mem_map_of_mem hq)).1.2.1))
    have BM := hid (Bmp.on (b := w2.heap.size) (W := W) (H := H) (s := s) (by refine ⟨?_, ?_, ?_, ?_⟩ <;> simp [go_sem]) hb4 (by simp; omega))
    have A4 := hid (show Below w2.heap.size w2 w4 from Below.trans (b := _) (by go_grown) (hb4.mono (by simp; omega)))
    have RES := hid (show Qm.Res (Qm.nx (Pm.blackB W H s.data.toList) fun _ _ => true) (fun t => Qm.isS (Pm.blackB W H s.data.toList) t = true) Qm.key (L.map (·.2)) from hR)
    have hLn' : L.length ≤ 1200 := hLn
    clear hR hRow hb4 hLn
    obtain ⟨al, cl, rfl, hrow⟩ := SH.out.row
    have HROW := hid hrow
    clear hrow
    obtain ⟨R, hRR⟩ : ∃ R, R = L.map (·.2) := ⟨_, rfl⟩
    rw [← hRR] at RES
    have RR := hid hRR
    clear hRR
    have RL := hid (show R.length = L.length by rw [RR.out, List.length_map])
    have PIC := hid (Qm.pic_of W H s.data.toList W2 H2)
    have E1 := hid (Qm.blacks PIC.out W2 RES.out)
    have E2 := hid (Qm.whites PIC.out W2 RES.out)
    have E3 := hid (Qm.two_kinds R fun c hc => (RES.out.1 c hc).dir)
    have SGN := hid (show ∀ i (hi : i < R.length), (R[i].1.2.2 = 0 ∧ 0 < Qm.twiceOf (Qm.ptsOf (Qm.nx (Pm.blackB W H s.data.toList) fun _ _ => true) R[i])) ∨ (R[i].1.2.2 ≠ 0 ∧ Qm.twiceOf (Qm.ptsOf (Qm.nx (Pm.blackB W H s.data.toList) fun _ _ => true) R[i]) < 0) from fun i hi => by
      have can := RES.out.1 R[i] (List.getElem_mem hi)
      have t := can.1.twice_ne PIC.out
      have f := can.first PIC.out
      rcases can.dir with e | e
      · have := (f.1 e).2.2; left; exact ⟨e, by omega⟩
      · have := (f.2 e).2.2; right; exact ⟨by omega, by omega⟩)
    obtain ⟨n, hn⟩ : ∃ n, n = L.length := ⟨_, rfl⟩
    rw [← hn] at hLn' HROW RL ⊢
    have B4 := hid (B2.out.trans (A4.out.mono B2.out.size))
    clear hn
    obtain ⟨bw0, bw1, bw2, bw3⟩ := BM.out
    go_wp2_with fail
    refine (pieces_any W H s _ _ W1 W2 H1 H2 HL.out).mono ?_
    rintro e w5 ⟨rfl, hb5⟩
    have A5 := hid hb5
    have B5 := hid (B4.out.trans (hb5.mono B4.out.size))
    clear hb5 bw0 bw1 bw2 bw3
    obtain ⟨pb, hpb⟩ : ∃ pb, pb = Qm.cntC (Pm.blackB W H s.data.toList) true W H true ((W + 2) * (H + 2)) := ⟨_, rfl⟩
    obtain ⟨pw, hpw⟩ : ∃ pw, pw = Qm.cntC (Pm.blackB W H s.data.toList) true W H false ((W + 2) * (H + 2)) := ⟨_, rfl⟩
    have F1 := hid (show Qm.cntD R n = pb by rw [hpb]; exact (show Qm.cntD R n = _ by unfold Qm.cntD; rw [List.take_of_length_le (by rw [RL.out]; exact Nat.le_refl _)]).trans E1.out)
    have F2 := hid (show pb + pw = n + 1 by
      have e1 := E1.out
      have e2 := E2.out
      have e3 := E3.out
      rw [RL.out] at e3
      have p1 : pb = (R.filter fun c => decide (c.1.2.2 = 0)).length := hpb.trans E1.out.symm
      have p2 : (R.filter fun c => decide (c.1.2.2 = 1)).length + 1 = pw := E2.out.trans hpw.symm
      omega)
    rw [← hpb, ← hpw]
    clear hpb hpw
    have pb1 : pb ≤ 1201 := by have := F2.out; omega
    have pw1 : pw ≤ 1201 := by have := F2.out; omega
    go_wp2_with fail
    go_loopw [16, 17] (fun nv iv wr => ∃ i : Nat, i ≤ n ∧ iv = .int .i64 i ∧ nv = .int .i64 (Qm.cntD R i : Nat) ∧ wr = w5) (fun _ i _ => n - (intOf i).toNat)
    case atStart => exact ⟨0, by omega, rfl, rfl, rfl⟩
    case round =>
      obtain ⟨i, hin, rfl, rfl, rfl⟩ := hrel
      have dl := Qm.cntD_le R i
      by_cases hlt : i < n
      · obtain ⟨gl, rfl, hgl, hc⟩ := HROW.out.resolve_left (by omega)
        have hiR : i < R.length := by rw [RL.out]; exact hlt
        obtain ⟨g, c, m0, hpt, c0, c1⟩ := SH.out.at RR.out hc hiR
        have c1' := (A5.out.cell (p := ⟨gl, i * 2 + 1, none⟩) hgl).trans c1
        have sg := SGN.out i hiR
        have DY := hid (Qm.cntD_yes hiR)
        have DN := hid (Qm.cntD_no hiR)
        obtain ⟨tw, htw⟩ : ∃ tw, tw = Qm.twiceOf (Qm.ptsOf (Qm.nx (Pm.blackB W H s.data.toList) fun _ _ => true) R[i]) := ⟨_, rfl⟩
        rw [← htw] at c1' sg
        obtain ⟨dd, hdd⟩ : ∃ dd, dd = R[i].1.2.2 := ⟨_, rfl⟩
        rw [← hdd] at sg DY DN
        obtain ⟨dn, hdn⟩ : ∃ dn, dn = Qm.cntD R i := ⟨_, rfl⟩
        rw [← hdn] at DY DN dl ⊢
        clear htw c0 c1 hpt m0 hc hiR hdd hdn
        have k0 : (0 : Int) ≤ (i : Nat) := by omega
        have k1 : ((i : Nat) : Int) < (n : Nat) := by omega
        have hg5 : gl < wr.heap.size := Nat.lt_of_lt_of_le hgl A5.out.size
        rcases sg with ⟨s1, s2⟩ | ⟨s1, s2⟩
        · have D1 := hid (DY.out s1)
          clear s1
          go_wp2
          go_roundw
          case rel => exact ⟨i + 1, by omega, by go_num, by rw [D1.out]; go_num, by trivial⟩
          case measure => simp [intOf]; omega
        · have D1 := hid (DN.out s1)
          have s3 : ¬ 0 < tw := by omega
          clear s1
          go_wp2
          go_roundw
          case rel => exact ⟨i + 1, by omega, by go_num, by rw [D1.out], by trivial⟩
          case measure => simp [intOf]; omega
      · obtain rfl : i = n := by omega
        rw [F1.out]
        have hB : (i : Int) - (pb : Nat) = (pw : Int) - 1 := by have := F2.out; omega
        go_wp2
        go_ret
        exact ⟨by rfl, B5.out⟩
end Go.Proofs.Ytljfiefobnncaaa
