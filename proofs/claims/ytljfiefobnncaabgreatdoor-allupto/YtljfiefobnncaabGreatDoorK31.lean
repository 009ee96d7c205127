import Derived.Test.YtljfiefobnncaabGreatDoorK30
import Derived.Test.YtljfiefobnncaabGreatDoorK28
import Derived.Test.YtljfiefobnncaabGreatDoorK18
import Derived.Test.YtljfiefobnncaabGreatDoorK27
import Derived.Deep.RegionHeld3
import Derived.Deep.QuietTactic
import Derived.BigQuiet
import Derived.Test.YtljfiefobnncaabGreatDoorK05
import Derived.Test.YtljfiefobnncaabGreatDoorK23

/- outlinelaw: same, whole, of shapes of whatever points. -/
namespace Go.Proofs.YtljfiefobnncaabGreatDoor
open Go.RowKit

set_option maxRecDepth 4000 in
set_option maxHeartbeats 1000000 in
theorem sameS_any (ao bo : Option Addr) (n ca cb : Nat) (L : List ShT) (hn : n = L.length) (hn2 : n ≤ 140737488355328) (hm : ∀ i, (L.getD i sh0).1.length ≤ 140737488355328) (w : World) (hA : ShIs ao L w) (hB : ShIs bo L w) :
    Calls Tryz.prog 21 #[.slice ao n ca, .slice bo n cb] w fun e w' => e = .returned (.bool true) ∧ Below w.heap.size w w' := by
  have HA := hid hA
  have HB := hid hB
  have HM := hid hm
  have HN := hid hn
  clear hA hB hm hn
  go_enter Tryz.func21, Tryz.ntmps21
  go_wp2
  go_loopw [5] (fun iv wr => ∃ i : Nat, i ≤ n ∧ iv = .int .i64 i ∧ Hid (Below w.heap.size w wr)) (fun i _ => n - (intOf i).toNat)
  case atStart => exact ⟨0, by omega, rfl, Below.refl _ _⟩
  case round =>
    obtain ⟨i, hin, rfl, BL⟩ := hrel
    by_cases hlt : i < n
    · obtain ⟨ga, oa, rfl, hga, hca⟩ := HA.out.resolve_left (by have := HN.out; omega)
      obtain ⟨gb, ob, rfl, hgb, hcb⟩ := HB.out.resolve_left (by have := HN.out; omega)
      obtain ⟨pa, c1, a0, a1, a2⟩ := hca i (by have := HN.out; omega)
      obtain ⟨pb, c2, b0, b1, b2⟩ := hcb i (by have := HN.out; omega)
      have hmi := HM.out i
      obtain ⟨s, hs⟩ : ∃ s, s = L.getD i sh0 := ⟨_, rfl⟩
      rw [← hs] at a0 a1 a2 b0 b1 b2 hmi
      obtain ⟨ps, tw⟩ := s
      dsimp only at a0 a1 a2 b0 b1 b2 hmi
      obtain ⟨m, hmm⟩ : ∃ m, m = ps.length := ⟨_, rfl⟩
      rw [← hmm] at a0 a2 b0 b2 hmi
      have rd : ∀ wx : World, Below w.heap.size w wx → wx.cell? ⟨ga, oa + i * 2, none⟩ = some (.slice pa m c1) ∧ wx.cell? ⟨ga, oa + i * 2 + 1, none⟩ = some (.int .i64 tw) ∧ wx.cell? ⟨gb, ob + i * 2, none⟩ = some (.slice pb m c2) ∧ wx.cell? ⟨gb, ob + i * 2 + 1, none⟩ = some (.int .i64 tw) := fun wx hx =>
        ⟨(hx.cell (p := ⟨ga, oa + i * 2, none⟩) hga).trans a0, (hx.cell (p := ⟨ga, oa + i * 2 + 1, none⟩) hga).trans a1, (hx.cell (p := ⟨gb, ob + i * 2, none⟩) hgb).trans b0, (hx.cell (p := ⟨gb, ob + i * 2 + 1, none⟩) hgb).trans b1⟩
      have RD := hid rd
      have T1 := hid a2
      have T2 := hid b2
      have LPS := hid hmm
      have i0' : (0 : Int) ≤ (i : Nat) := by omega
      have i1' : ((i : Nat) : Int) < (n : Nat) := by omega
      clear rd a0 a1 a2 b0 b1 b2 hca hcb hs hmm
      obtain ⟨r0, r1, r2, r3⟩ := RD.out _ BL.out
      go_wp2_with fail
      go_quiet (fail)
      go_wp2
      go_loopw [6] (fun kv wr => ∃ k : Nat, k ≤ m ∧ kv = .int .i64 k ∧ Hid (Below w.heap.size w wr)) (fun k _ => m - (intOf k).toNat)
      case atStart => exact ⟨0, by omega, rfl, BL.out.trans ⟨rfl, rfl, rfl, Nat.le_refl _, fun _ _ => rfl⟩⟩
      case round =>
        clear r0 r1 r2 r3 BL
        obtain ⟨k, hkm, rfl, BL⟩ := hrel
        obtain ⟨r0, r1, r2, r3⟩ := RD.out _ BL.out
        by_cases hk : k < m
        · obtain ⟨g1, q1, rfl, t1⟩ := T1.out.resolve_left (by omega)
          obtain ⟨g2, q2, rfl, t2⟩ := T2.out.resolve_left (by omega)
          obtain ⟨x0, x1⟩ := (t1.on BL.out t1.1).2 k (by have := LPS.out; omega)
          obtain ⟨y0, y1⟩ := (t2.on BL.out t2.1).2 k (by have := LPS.out; omega)
          obtain ⟨⟨px, py⟩, hpp⟩ : ∃ p, p = ps.getD k (0, 0) := ⟨_, rfl⟩
          rw [← hpp] at x0 x1 y0 y1
          dsimp only at x0 x1 y0 y1
          have k0' : (0 : Int) ≤ (k : Nat) := by omega
          have k1' : ((k : Nat) : Int) < (m : Nat) := by omega
          clear hpp t1 t2
          go_wp2_with fail
          go_quiet (fail)
          go_wp2
          go_roundw
          case rel => exact ⟨k + 1, by omega, by go_num, BL.out.trans ⟨rfl, rfl, rfl, Nat.le_refl _, fun _ _ => rfl⟩⟩
          case measure => simp [intOf]; omega
        · have hk' : ((m : Nat) : Int) ≤ (k : Nat) := by omega
          go_wp2
          go_roundw
          case rel => exact ⟨i + 1, by omega, by go_num, BL⟩
          case measure => simp [intOf]; omega
    · have hk' : ((n : Nat) : Int) ≤ (i : Nat) := by omega
      go_wp2
      go_ret
      exact ⟨rfl, BL.out⟩

end Go.Proofs.YtljfiefobnncaabGreatDoor

/- outlinelaw: whole. -/
namespace Go.Proofs.YtljfiefobnncaabGreatDoor
open Go.RowKit

set_option maxRecDepth 4000 in
set_option maxHeartbeats 1000000 in
theorem whole_any (gl : Nat) (bo : Option Addr) (n cb : Nat) (L : List ShT) (hn : n = L.length) (hn2 : n ≤ 140737488355328) (hm : ∀ i, (L.getD i sh0).1.length ≤ 140737488355328) (w : World) (hA : RoomIs gl n L w) (hB : ShIs bo L w) :
    Calls Tryz.prog 28 #[.slice (some ⟨gl, 0, none⟩) n (n + 1), .slice bo n cb] w fun e w' => e = .returned (.bool true) ∧ Below w.heap.size w w' := by
  have HA := hid hA
  have SA := hid (sameS_any (some ⟨gl, 0, none⟩) bo n (n + 1) cb L hn hn2 hm w (hA.sh hn) hB)
  have HM := hid hm
  have gz := hA.lt
  clear hA hB hm hn
  go_enter Tryz.func28, Tryz.ntmps28
  go_wp2_with fail
  refine SA.out.mono ?_
  rintro e w1 ⟨rfl, hb1⟩
  have B1 := hid hb1
  have e1 := (HA.out.on hb1).end'
  have k1' : (0 : Int) ≤ (n : Nat) := by omega
  have k2' : ((n : Nat) : Int) < (n : Nat) + 1 := by omega
  clear hb1
  go_wp2_with fail
  go_loopw [8] (fun iv wr => ∃ i : Nat, i ≤ n ∧ iv = .int .i64 i ∧ Hid (Below w.heap.size w wr)) (fun i _ => n - (intOf i).toNat)
  case atStart => exact ⟨0, by omega, rfl, B1⟩
  case round =>
    clear e1
    obtain ⟨i, hin, rfl, BL⟩ := hrel
    by_cases hlt : i < n
    · obtain ⟨g, h1, h2, h3, h4, h5⟩ := (HA.out.on BL.out).old i hlt
      have hmi := HM.out i
      obtain ⟨m, hmm⟩ : ∃ m, m = (L.getD i sh0).1.length := ⟨_, rfl⟩
      rw [← hmm] at h2 h5 hmi
      have i0' : (0 : Int) ≤ (i : Nat) := by omega
      have i1' : ((i : Nat) : Int) < (n : Nat) := by omega
      have m1' : (0 : Int) ≤ (m : Nat) := by omega
      have m2' : ((m : Nat) : Int) < (m : Nat) + 1 := by omega
      clear h4 hmm h3
      go_wp2
      go_roundw
      case rel => exact ⟨i + 1, by omega, by go_num, BL⟩
      case measure => simp [intOf]; omega
    · have hk' : ((n : Nat) : Int) ≤ (i : Nat) := by omega
      go_wp2
      go_ret
      exact ⟨rfl, BL.out⟩

end Go.Proofs.YtljfiefobnncaabGreatDoor

/- outlinelaw: written, shaped. -/
namespace Go.Proofs.YtljfiefobnncaabGreatDoor
open Go.RowKit
attribute [local go_sem ↓] Go.wp_at_zero Go.wp_at_succ

set_option maxRecDepth 4000 in
set_option maxHeartbeats 2000000 in
theorem written_any (ao : Option Addr) (n cap : Nat) (L : List ShT) (hn : n = L.length) (hn2 : n ≤ 1073741824) (hm : ∀ i, (L.getD i sh0).1.length ≤ 1073741824) (hT : (Pm.pathL (ptsS L)).length ≤ 1073741824) (w : World) (hS : ShIs ao L w) :
    Calls Tryz.prog 10 #[.slice ao n cap] w fun e w' => e = .returned (.bool true) ∧ Below w.heap.size w w' := by
  have RO := hid (roomy_any ao n cap L hn (by omega) (fun i => by have := hm i; omega) w hS)
  have PF := hid (fun gl W' (h : RoomIs gl n L W') => path_any (some ⟨gl, 0, none⟩) n (n + 1) L hn hn2 hm hT W' (h.sh hn))
  have RF := hid (fun W' (h : Below w.heap.size w W') => refPath_any ao n cap L hn hn2 hm hT W' (hS.on h))
  have WH := hid (fun gl W' (h : RoomIs gl n L W') (hb : Below w.heap.size w W') => whole_any gl ao n cap L hn (by omega) (fun i => by have := hm i; omega) W' h (hS.on hb))
  have NF := hid (fun (h : n = 0) W' => path_any none 0 0 L (by omega) (by omega) hm hT W' (.inl (by omega)))
  have h : ∃ (c : ByteArray) (d : Int), pathOut L = .tuple #[.string c, .int .i64 d] := by unfold pathOut; split <;> exact ⟨_, _, rfl⟩
  obtain ⟨c, d, e⟩ := h
  rw [e] at PF RF NF
  clear e hS hn hm hT
  go_enter Tryz.func10, Tryz.ntmps10
  go_wp2_with fail
  refine RO.out.mono ?_
  rintro e w1 ⟨⟨gl, rfl, hR⟩, hb1⟩
  have R1 := hid hR
  have B1 := hid hb1
  clear hR hb1
  go_wp2_with fail
  refine (PF.out gl _ R1.out).mono ?_
  rintro e w2 ⟨rfl, hb2⟩
  have R2 := hid (R1.out.on hb2)
  have B2 := hid (show Below w.heap.size w w2 from B1.out.trans (hb2.mono B1.out.size))
  clear hb2
  go_wp2_with fail
  refine (RF.out _ B2.out).mono ?_
  rintro e w3 ⟨rfl, hb3⟩
  have R3 := hid (R2.out.on hb3)
  have B3 := hid (show Below w.heap.size w w3 from B2.out.trans (hb3.mono B2.out.size))
  clear hb3
  go_wp2_with fail
  refine (WH.out gl _ R3.out B3.out).mono ?_
  rintro e w4 ⟨rfl, hb4⟩
  have B4 := hid (show Below w.heap.size w w4 from B3.out.trans (hb4.mono B3.out.size))
  clear hb4
  by_cases h0 : n = 0
  · have N0 := hid (NF.out h0)
    have e0 : ((n : Int) == 0) = true := by simp [h0]
    clear h0
    go_wp2_with fail
    refine (N0.out _).mono ?_
    rintro e w5 ⟨rfl, hb5⟩
    have B5 := hid (show Below w.heap.size w w5 from B4.out.trans (hb5.mono B4.out.size))
    clear hb5
    go_wp2
    go_ret
    exact ⟨rfl, B5.out⟩
  · have e0 : ((n : Int) == 0) = false := by simp [h0]
    clear h0
    go_wp2
    go_ret
    exact ⟨rfl, B4.out⟩

set_option maxRecDepth 4000 in
set_option maxHeartbeats 2000000 in
theorem bookShaped_any (kb N : Nat) (vp vs : Value) (P S : List Rec) (s : ByteArray) (hs : s.size ≤ 100000000) (w : World) (hO : OBook kb N vp vs P S w) (hN : N ≤ 1000000000) :
    Calls Tryz.prog 11 #[.pointer (some ⟨kb, 0, none⟩), .string s] w fun e w' => e = .returned (.bool true) ∧ ∃ N' vp' vs' P' S', OBook kb N' vp' vs' P' S' w' ∧ N' ≤ N + s.size + 1 ∧ Fr (fun k => k = kb ∨ vp.ownBlock = some k ∨ vs.ownBlock = some k) w w' ∧ Kin vp vp' w ∧ Kin vs vs' w := by
  have HO := hid hO
  have SH := hid (shapes_any s (by omega) w)
  have RS := hid (fun W => refShapes_any s (by omega) W)
  have ls : s.data.toList.length = s.size := by simp
  obtain ⟨l, hl⟩ : ∃ l, l = s.data.toList := ⟨_, rfl⟩
  rw [← hl] at SH RS ls
  have LS := hid ls
  clear hO hl ls
  go_enter Tryz.func11, Tryz.ntmps11
  go_wp2_with fail
  refine SH.out.mono ?_
  rintro e w1 ⟨⟨v1, e1, p1, rfl, o1⟩, b1⟩
  have B1 := hid b1
  have O1 := hid o1
  clear b1 o1
  go_wp2_with fail
  refine (RS.out _).mono ?_
  rintro e w2 ⟨⟨v2, e2, p2, rfl, o2⟩, b2⟩
  have B2 := hid (show Below w.heap.size w w2 from B1.out.trans (b2.mono B1.out.size))
  have BB := hid b2
  clear b2
  rcases O1.out with ⟨rfl, rfl, La, rowA, bigA, lenA, sayA⟩ | ⟨rfl, he1, sayA⟩
  · rcases o2 with ⟨rfl, rfl, Lm, rowM, bigM, lenM, sayM⟩ | ⟨rfl, he2, sayM⟩
    · have EQ := hid (show La.map (·.2) = Lm.map (·.2) by have := sayA.unique sayM; injection this)
      have RW2 := hid (rowA.on BB.out)
      have RF2 := hid rowM
      have POS := hid (show ∀ p ∈ La, 0 < p.2.length ∧ p.2.length ≤ 100000000 from fun p hp => ⟨(bigA p hp).1, by have := (bigA p hp).2.2; have := LS.out; omega⟩)
      have POM := hid (show ∀ p ∈ Lm, 0 < p.2.length from fun p hp => (bigM p hp).1)
      have LN := hid (show La.length ≤ s.size by have := LS.out; omega)
      obtain ⟨ao, cap, rfl⟩ := own_len rowA.row
      obtain ⟨ao2, cap2, rfl⟩ := own_len rowM.row
      clear rowA rowM bigA bigM sayA sayM lenA lenM O1
      go_wp2_with fail
      refine (sameP_any _ _ La Lm _ EQ.out (RW2.out.shown fun p hp => (POS.out p hp).1) (RF2.out.shown POM.out) (own_max RW2.out.row) (fun p hp => by have := (POS.out p hp).2; omega)).mono ?_
      rintro e w3 ⟨rfl, b3⟩
      have B3 := hid (B2.out.trans (b3.mono B2.out.size))
      have RW3 := hid (RW2.out.on b3)
      clear b3
      go_wp2_with fail
      refine (keepP_any w.heap.size _ La kb N vp vs P S _ (HO.out.below B3.out) RW3.out (fun p hp => (POS.out p hp).1) (fun p hp => by have := (POS.out p hp).2; omega) (by have := LN.out; omega) (by omega) (fun p hp => apP_new HO.out (fun k hk => by have := ((RW3.out.pts p hp).lt k hk).1; omega)) (apP_new HO.out (fun k hk => by have := (RW3.out.row.lt k hk).1; omega))).mono ?_
      rintro e w4 ⟨rfl, N', vp', vs', P', S', ho, hn', hfr, kp, ks⟩
      have OB := hid ho
      have FR := hid hfr
      have KP := hid (show Kin vp vp' w from kp.imp id (fun ⟨q, h1, h2⟩ => ⟨q, h1, Nat.le_trans B3.out.size h2⟩))
      have KS := hid (show Kin vs vs' w from ks.imp id (fun ⟨q, h1, h2⟩ => ⟨q, h1, Nat.le_trans B3.out.size h2⟩))
      clear ho hfr kp ks
      go_wp2
      go_ret
      have z3 := B3.out.size
      have fr2 : Fr (fun k => k = kb ∨ vp.ownBlock = some k ∨ vs.ownBlock = some k) w w4 := by
        refine ⟨FR.out.os.trans B3.out.os, FR.out.tape.trans B3.out.tape, FR.out.output.trans B3.out.output, Nat.le_trans z3 FR.out.size, fun k hk hc => (FR.out.block k (by omega) (fun hc2 => ?_)).trans (B3.out.block k hk)⟩
        rcases hc2 with e | e | e | e | ⟨p, hp, e⟩
        · exact hc (.inl e)
        · exact hc (.inr (.inl e))
        · exact hc (.inr (.inr e))
        · have := (RW3.out.row.lt k e).1; omega
        · have := ((RW3.out.pts p hp).lt k e).1; omega
      exact ⟨rfl, N', vp', vs', P', S', OB.out, by have := LN.out; omega, fr2, KP.out, KS.out⟩
    · exfalso
      have := sayA.unique sayM
      cases this
  · rcases o2 with ⟨rfl, rfl, Lm, rowM, bigM, lenM, sayM⟩ | ⟨rfl, he2, sayM⟩
    · exfalso
      have := sayA.unique sayM
      cases this
    · have EQ : e1 = e2 ∧ p1 = p2 := by
        have := sayA.unique sayM
        injection this with this
        injection this with a b
        exact ⟨a, b⟩
      obtain ⟨rfl, rfl⟩ := EQ
      clear sayA sayM he1 he2 O1
      go_wp2_with fail
      refine (sameP_any (.slice none 0 0) (.slice none 0 0) [] [] _ rfl ((RowP.nil 0 _).shown (by simp)) ((RowP.nil 0 _).shown (by simp)) (by simp) (by simp)).mono ?_
      rintro e w3 ⟨rfl, b3⟩
      have B3 := hid (B2.out.trans (b3.mono B2.out.size))
      clear b3
      go_wp2_with fail
      refine (keepP_any 0 (.slice none 0 0) [] kb N vp vs P S _ (HO.out.below B3.out) (RowP.nil 0 _) (by simp) (by simp) (by simp) (by omega) (by simp) (fun k hk => by simp [Value.ownBlock] at hk)).mono ?_
      rintro e w4 ⟨rfl, N', vp', vs', P', S', ho, hn', hfr, kp, ks⟩
      have OB := hid ho
      have FR := hid hfr
      have KP := hid (show Kin vp vp' w from kp.imp id (fun ⟨q, h1, h2⟩ => ⟨q, h1, Nat.le_trans B3.out.size h2⟩))
      have KS := hid (show Kin vs vs' w from ks.imp id (fun ⟨q, h1, h2⟩ => ⟨q, h1, Nat.le_trans B3.out.size h2⟩))
      clear ho hfr kp ks
      go_wp2
      go_ret
      refine ⟨rfl, N', vp', vs', P', S', OB.out, by simp at hn'; omega, (Fr.below B3.out).trans (FR.out.imp ?_), KP.out, KS.out⟩
      intro k _ hk
      rcases hk with hk | hk | hk | hk | ⟨p, hp, _⟩
      · exact .inl hk
      · exact .inr (.inl hk)
      · exact .inr (.inr hk)
      · simp [Value.ownBlock] at hk
      · simp at hp



end Go.Proofs.YtljfiefobnncaabGreatDoor

/- Winding numbers of all shapes together, by the program and by the document's answer; pixels. -/
namespace Go.Proofs.YtljfiefobnncaabGreatDoor
open Go.RowKit

theorem wrap_more (a b : Int) : wrap64 (wrap64 a + b) = wrap64 (a + b) := by unfold wrap64; omega
theorem wrap_inside (a : Int) : -9223372036854775808 ≤ wrap64 a ∧ wrap64 a ≤ 9223372036854775807 := by unfold wrap64; omega
theorem wrap_small {a : Int} (h0 : -9223372036854775808 ≤ a) (h1 : a ≤ 9223372036854775807) : IntKind.i64.wrap a = a := by simp only [IntKind.wrap_i64]; omega
/-- The winding numbers of the first k shapes, together. -/
def totW (L : List ShT) (x y : Int) : Nat → Int
  | 0 => 0
  | k + 1 => totW L x y k + Qm.wsum (L.getD k sh0).1 x y (L.getD k sh0).1.length

set_option maxRecDepth 4000 in
set_option maxHeartbeats 1000000 in
theorem windingOfAll_any (ao : Option Addr) (n cap : Nat) (L : List ShT) (hn : n = L.length) (hn2 : n ≤ 140737488355328) (hm : ∀ i, (L.getD i sh0).1.length ≤ 140737488355328) (hL : plB L = true) (x y : Int) (x0 : 0 ≤ x) (x1 : x ≤ 32) (y0 : 0 ≤ y) (y1 : y ≤ 32) (w : World) (hS : ShIs ao L w) :
    Calls Tryz.prog 85 #[.slice ao n cap, .int .i64 x, .int .i64 y] w fun e w' => e = .returned (.int .i64 (wrap64 (totW L x y n))) ∧ Below w.heap.size w w' := by
  have HS := hid hS
  have HM := hid hm
  have HN := hid hn
  have HL := hid hL
  clear hS hm hn hL
  go_enter Tryz.func85, Tryz.ntmps85
  go_wp2_with fail
  go_loopw [7, 8] (fun sv i wr => ∃ (k : Nat) (z : Int), k ≤ n ∧ i = .int .i64 k ∧ sv = .int .i64 z ∧ Hid (z = wrap64 (totW L x y k)) ∧ Hid (Below w.heap.size w wr)) (fun _ i _ => n - (intOf i).toNat)
  case atStart => exact ⟨0, 0, by omega, rfl, rfl, (show (0 : Int) = wrap64 0 by unfold wrap64; omega), Below.refl _ _⟩
  case round =>
    obtain ⟨k, z, hk, rfl, rfl, hZ, hb⟩ := hrel
    have hz := hb.out.size
    by_cases hlt : k < n
    · obtain ⟨gl, o, rfl, hgl, hc⟩ := HS.out.resolve_left (by have := HN.out; omega)
      obtain ⟨ap, cp, c0, c1, c2⟩ := hc k (by have := HN.out; omega)
      have r0 := (hb.out.cell (p := ⟨gl, o + k * 2, none⟩) hgl).trans c0
      have k0' : (0 : Int) ≤ (k : Nat) := by omega
      have k1' : ((k : Nat) : Int) < (n : Nat) := by omega
      have OS := okSh_small (all_at sh0 HL.out (i := k) (by have := HN.out; omega))
      have hmk := HM.out k
      have TS : Hid (totW L x y (k + 1) = totW L x y k + Qm.wsum (L.getD k sh0).1 x y (L.getD k sh0).1.length) := rfl
      obtain ⟨s, hs⟩ : ∃ s, s = L.getD k sh0 := ⟨_, rfl⟩
      rw [← hs] at r0 c2 hmk OS TS
      obtain ⟨m, hmm⟩ : ∃ m, m = s.1.length := ⟨_, rfl⟩
      rw [← hmm] at r0 c2 hmk OS TS
      obtain ⟨g, q, rfl, hp⟩ := c2.resolve_left (by omega)
      have WB := hid (fun W' (h : Below w.heap.size w W') => winding_big g q m cp s.1 hmm OS.1 OS.2 hmk x y (by omega) (by omega) (by omega) (by omega) W' (hp.on h hp.1))
      obtain ⟨u, hu⟩ : ∃ u, u = Qm.wsum s.1 x y m := ⟨_, rfl⟩
      rw [← hu] at WB TS
      have zi := wrap_inside (totW L x y k)
      rw [← hZ.out] at zi
      clear hc c0 c1 hs c2 hp hmm OS hu
      go_wp2_with fail
      refine (WB.out _ (by go_grown; exact hb.out)).mono ?_
      rintro e w2 ⟨rfl, hb2⟩
      have B2 := hid (show Below w.heap.size w w2 from Below.trans (b := _) (by go_grown; exact hb.out) (hb2.mono hz))
      have ZN := hid (show wrap64 (z + u) = wrap64 (totW L x y (k + 1)) by rw [TS.out, hZ.out, wrap_more])
      clear hb2
      go_wp2
      go_roundw
      case rel => exact ⟨k + 1, wrap64 (z + u), by omega, by go_num, rfl, ZN, B2⟩
      case measure => simp [intOf]; omega
    · have hk' : ((n : Nat) : Int) ≤ (k : Nat) := by omega
      have ek : k = n := by omega
      go_wp2
      go_ret
      exact ⟨ret_int (by rw [hZ.out, ek]), hb.out⟩

set_option maxRecDepth 4000 in
set_option maxHeartbeats 1000000 in
theorem refRight_any (p q : Int × Int) (x y : Int) (hp : PtIn p) (hq : PtIn q) (x0 : -32 ≤ x) (x1 : x ≤ 64) (y0 : -32 ≤ y) (y1 : y ≤ 64) (w : World) :
    Calls Tryz.prog 87 #[.agg #[.int .i64 p.1, .int .i64 p.2], .agg #[.int .i64 q.1, .int .i64 q.2], .int .i64 x, .int .i64 y] w fun e w' => e = .returned (.int .i64 (Qm.wdZ p q x y)) ∧ Below w.heap.size w w' := by
  have E := hid (Qm.wdZ_eq p q x y)
  unfold PtIn at hp hq
  obtain ⟨px, py⟩ := p
  obtain ⟨qx, qy⟩ := q
  dsimp only at hp hq E ⊢
  have F := hid (show Qm.farZ (px, py) (qx, qy) x y = 2 * px * (qy - py) + (qx - px) * (2 * y + 1 - 2 * py) - (2 * x + 1) * (qy - py) by unfold Qm.farZ; grind)
  have mul200 : ∀ {a b : Int}, -200 ≤ a → a ≤ 200 → -200 ≤ b → b ≤ 200 → -40000 ≤ a * b ∧ a * b ≤ 40000 := by
    intro a b a0 a1 b0 b1
    have p : ∀ {u v : Int}, 0 ≤ u → u ≤ 200 → 0 ≤ v → v ≤ 200 → 0 ≤ u * v ∧ u * v ≤ 40000 := fun a b c d => ⟨Int.mul_nonneg a c, Int.mul_le_mul b d c (by omega)⟩
    rcases Int.le_total 0 a with ha | ha <;> rcases Int.le_total 0 b with hb | hb
    · have := p ha a1 hb b1; omega
    · have := p ha a1 (show 0 ≤ -b by omega) (by omega); rw [Int.mul_neg] at this; omega
    · have := p (show 0 ≤ -a by omega) (by omega) hb b1; rw [Int.neg_mul] at this; omega
    · have := p (show 0 ≤ -a by omega) (by omega) (show 0 ≤ -b by omega) (by omega); rw [Int.neg_mul_neg] at this; omega
  have m1 := mul200 (a := 2 * px) (b := qy - py) (by omega) (by omega) (by omega) (by omega)
  have m2 := mul200 (a := qx - px) (b := 2 * y + 1 - 2 * py) (by omega) (by omega) (by omega) (by omega)
  have m3 := mul200 (a := 2 * x + 1) (b := qy - py) (by omega) (by omega) (by omega) (by omega)
  obtain ⟨u, hu⟩ : ∃ u, 2 * px * (qy - py) = u := ⟨_, rfl⟩
  obtain ⟨v, hv⟩ : ∃ v, (qx - px) * (2 * y + 1 - 2 * py) = v := ⟨_, rfl⟩
  obtain ⟨t, ht⟩ : ∃ t, (2 * x + 1) * (qy - py) = t := ⟨_, rfl⟩
  rw [hu] at m1 F
  rw [hv] at m2 F
  rw [ht] at m3 F
  rw [F.out] at E
  obtain ⟨z, hz⟩ : ∃ z, Qm.wdZ (px, py) (qx, qy) x y = z := ⟨_, rfl⟩
  rw [hz] at E ⊢
  clear F hz mul200
  cases hd1 : decide (py ≤ y) <;> cases hd2 : decide (qy ≤ y)
  all_goals simp only [decide_eq_true_eq, decide_eq_false_iff_not] at hd1 hd2
  · have Z := hid (show z = 0 by rw [E.out, if_neg (by omega), if_neg (by omega)])
    go_enter Tryz.func87, Tryz.ntmps87
    go_wp2
    go_ret
    exact ⟨ret_int Z.out.symm, by go_grown⟩
  · by_cases h : u + v - t < 0
    · have Z := hid (show z = 1 by rw [E.out, if_pos (by omega)])
      go_enter Tryz.func87, Tryz.ntmps87
      go_wp2
      go_ret
      exact ⟨ret_int Z.out.symm, by go_grown⟩
    · have Z := hid (show z = 0 by rw [E.out, if_neg (by omega), if_neg (by omega)])
      go_enter Tryz.func87, Tryz.ntmps87
      go_wp2
      go_ret
      exact ⟨ret_int Z.out.symm, by go_grown⟩
  · by_cases h : 0 < u + v - t
    · have Z := hid (show z = -1 by rw [E.out, if_neg (by omega), if_pos (by omega)])
      go_enter Tryz.func87, Tryz.ntmps87
      go_wp2
      go_ret
      exact ⟨ret_int Z.out.symm, by go_grown⟩
    · have Z := hid (show z = 0 by rw [E.out, if_neg (by omega), if_neg (by omega)])
      go_enter Tryz.func87, Tryz.ntmps87
      go_wp2
      go_ret
      exact ⟨ret_int Z.out.symm, by go_grown⟩
  · have Z := hid (show z = 0 by rw [E.out, if_neg (by omega), if_neg (by omega)])
    go_enter Tryz.func87, Tryz.ntmps87
    go_wp2
    go_ret
    exact ⟨ret_int Z.out.symm, by go_grown⟩

/-- Is the pixel black, by its winding number and the rule? -/
def pxB (z r : Int) : Bool := !(z == 0 || (r == 1 && z.tmod 2 == 0))
def pxV (z r : Int) : UInt8 := if pxB z r = true then 49 else 48
set_option maxRecDepth 4000 in
set_option maxHeartbeats 400000 in
theorem pixel_any (z r : Int) (h0 : -9223372036854775808 ≤ z) (h1 : z ≤ 9223372036854775807) (w : World) :
    Calls Tryz.prog 86 #[.int .i64 z, .int .i64 r] w fun e w' => e = .returned (.int .u8 (pxV z r).toNat) ∧ Below w.heap.size w w' := by
  cases e0 : (z == 0)
  · cases e1 : (r == 1)
    · have P := hid (show pxV z r = 49 by unfold pxV pxB; rw [e0, e1]; rfl)
      go_enter Tryz.func86, Tryz.ntmps86
      go_wp2
      go_ret
      exact ⟨ret_int (by rw [P.out]; rfl), by go_grown⟩
    · have tb : -1 ≤ z.tmod 2 ∧ z.tmod 2 ≤ 1 := by
        rcases Int.le_total 0 z with h | h
        · rw [Int.tmod_eq_emod_of_nonneg h]; omega
        · have := Int.neg_tmod (-z) 2
          rw [Int.neg_neg] at this
          rw [this, Int.tmod_eq_emod_of_nonneg (by omega)]; omega
      have et : IntKind.i64.wrap (z.tmod 2) = z.tmod 2 := wrap_small (by omega) (by omega)
      cases e2 : (z.tmod 2 == 0)
      · have P := hid (show pxV z r = 49 by unfold pxV pxB; rw [e0, e1, e2]; rfl)
        go_enter Tryz.func86, Tryz.ntmps86
        go_wp2
        go_ret
        exact ⟨ret_int (by rw [P.out]; rfl), by go_grown⟩
      · have P := hid (show pxV z r = 48 by unfold pxV pxB; rw [e0, e1, e2]; rfl)
        go_enter Tryz.func86, Tryz.ntmps86
        go_wp2
        go_ret
        exact ⟨ret_int (by rw [P.out]; rfl), by go_grown⟩
  · have P := hid (show pxV z r = 48 by unfold pxV pxB; rw [e0]; rfl)
    go_enter Tryz.func86, Tryz.ntmps86
    go_wp2
    go_ret
    exact ⟨ret_int (by rw [P.out]; rfl), by go_grown⟩

set_option maxRecDepth 4000 in
set_option maxHeartbeats 400000 in
theorem isRule_any (r : Int) (w : World) :
    Calls Tryz.prog 84 #[.int .i64 r] w fun e w' => e = .returned (.bool (r == 0 || r == 1)) ∧ w' = w := by
  cases e0 : (r == 0)
  all_goals
    go_enter Tryz.func84, Tryz.ntmps84
    go_wp2
    go_ret
    exact ⟨ret_bool (by simp), rfl⟩

end Go.Proofs.YtljfiefobnncaabGreatDoor

/- outlineref: Wound. -/
namespace Go.Proofs.YtljfiefobnncaabGreatDoor
open Go.RowKit

theorem wsum_fsE (l : List (Int × Int)) (h : 0 < l.length) (x y : Int) : Qm.wsum l x y l.length = Qm.fsE (fun p q => Qm.wdZ p q x y) l l.length := by rw [Qm.wsum_bsE, Qm.bsE_all _ _ h]

set_option maxRecDepth 4000 in
set_option maxHeartbeats 2000000 in
theorem wound_any (ao : Option Addr) (n cap : Nat) (L : List ShT) (hn : n = L.length) (hn2 : n ≤ 140737488355328) (hm : ∀ i, (L.getD i sh0).1.length ≤ 140737488355328) (hL : plB L = true) (x y : Int) (x0 : 0 ≤ x) (x1 : x ≤ 32) (y0 : 0 ≤ y) (y1 : y ≤ 32) (w : World) (hS : ShIs ao L w) :
    Calls Tryz.prog 59 #[.slice ao n cap, .int .i64 x, .int .i64 y] w fun e w' => e = .returned (.int .i64 (wrap64 (totW L x y n))) ∧ Below w.heap.size w w' := by
  have HS := hid hS
  have HM := hid hm
  have HN := hid hn
  have HL := hid hL
  clear hS hm hn hL
  go_enter Tryz.func59, Tryz.ntmps59
  go_wp2_with fail
  go_loopw [7, 8] (fun sv i wr => ∃ (k : Nat) (z : Int), k ≤ n ∧ i = .int .i64 k ∧ sv = .int .i64 z ∧ Hid (z = wrap64 (totW L x y k)) ∧ Hid (Below w.heap.size w wr)) (fun _ i _ => n - (intOf i).toNat)
  case atStart => exact ⟨0, 0, by omega, rfl, rfl, (show (0 : Int) = wrap64 0 by unfold wrap64; omega), Below.refl _ _⟩
  case round =>
    obtain ⟨k, z, hk, rfl, rfl, hZ, hb⟩ := hrel
    have hz := hb.out.size
    by_cases hlt : k < n
    · obtain ⟨gl, o, rfl, hgl, hc⟩ := HS.out.resolve_left (by have := HN.out; omega)
      obtain ⟨ap, cp, c0, c1, c2⟩ := hc k (by have := HN.out; omega)
      have r0 := (hb.out.cell (p := ⟨gl, o + k * 2, none⟩) hgl).trans c0
      have k0' : (0 : Int) ≤ (k : Nat) := by omega
      have k1' : ((k : Nat) : Int) < (n : Nat) := by omega
      have OS := okSh_small (all_at sh0 HL.out (i := k) (by have := HN.out; omega))
      have hmk := HM.out k
      have TS : Hid (totW L x y (k + 1) = totW L x y k + Qm.wsum (L.getD k sh0).1 x y (L.getD k sh0).1.length) := rfl
      obtain ⟨s, hs⟩ : ∃ s, s = L.getD k sh0 := ⟨_, rfl⟩
      rw [← hs] at r0 c2 hmk OS TS
      rw [wsum_fsE _ OS.1] at TS
      obtain ⟨l, hl⟩ : ∃ l, l = s.1 := ⟨_, rfl⟩
      rw [← hl] at r0 c2 hmk OS TS
      obtain ⟨m, hmm⟩ : ∃ m, m = l.length := ⟨_, rfl⟩
      rw [← hmm] at r0 c2 hmk OS TS
      obtain ⟨g, q, rfl, hp⟩ := c2.resolve_left (by omega)
      have m0 := OS.1
      have SM := hid OS.2
      have HP := hid hp
      have HMM := hid hmm
      obtain ⟨T, hT⟩ : ∃ T, T = totW L x y k := ⟨_, rfl⟩
      rw [← hT] at TS hZ
      have hgw := hp.1
      clear hc c0 c1 hs c2 hp hmm OS hl hT
      go_wp2_with fail
      go_loopw [7, 10] (fun sv i wr => ∃ (j : Nat) (z : Int), j ≤ m ∧ i = .int .i64 j ∧ sv = .int .i64 z ∧ Hid (z = wrap64 (T + Qm.fsE (fun p q => Qm.wdZ p q x y) l j)) ∧ Hid (Below w.heap.size w wr)) (fun _ i _ => m - (intOf i).toNat)
      case atStart => exact ⟨0, z, by omega, rfl, rfl, (show z = wrap64 (T + 0) by rw [Int.add_zero]; exact hZ.out), hb⟩
      case round =>
        clear r0 hb hz hZ
        obtain ⟨j, v, hj, rfl, rfl, hV, hb⟩ := hrel
        have hz := hb.out.size
        by_cases hjm : j < m
        · obtain ⟨r, hr⟩ : ∃ r, r = (j + 1) % m := ⟨_, rfl⟩
          have hrn : r < m := by rw [hr]; exact Nat.mod_lt _ m0
          have er : ((j : Int) + 1) % (m : Int) = (r : Nat) := by rw [hr]; simp
          obtain ⟨r0, r1⟩ := (HP.out.on hb.out hgw).2 j (by have := HMM.out; omega)
          obtain ⟨q0, q1⟩ := (HP.out.on hb.out hgw).2 r (by have := HMM.out; omega)
          have NX := hid (show Qm.nxP l j = l.getD r (0, 0) by rw [hr, HMM.out]; rfl)
          have AB := hid (fun W' => refRight_any (l.getD j (0, 0)) (l.getD r (0, 0)) x y (small_in SM.out _) (small_in SM.out _) (by omega) (by omega) (by omega) (by omega) W')
          have E2 : Hid (Qm.fsE (fun p q => Qm.wdZ p q x y) l (j + 1) = Qm.fsE (fun p q => Qm.wdZ p q x y) l j + Qm.wdZ (l.getD j (0, 0)) (Qm.nxP l j) x y) := rfl
          rw [NX.out] at E2
          have ai := Qm.wdZ_in (l.getD j (0, 0)) (l.getD r (0, 0)) x y
          obtain ⟨u, hu⟩ : ∃ u, Qm.wdZ (l.getD j (0, 0)) (l.getD r (0, 0)) x y = u := ⟨_, rfl⟩
          rw [hu] at E2 AB ai
          have VN := hid (show wrap64 (v + u) = wrap64 (T + Qm.fsE (fun p q => Qm.wdZ p q x y) l (j + 1)) by rw [E2.out, hV.out, wrap_more, Int.add_assoc])
          have vi := wrap_inside (T + Qm.fsE (fun p q => Qm.wdZ p q x y) l j)
          rw [← hV.out] at vi
          obtain ⟨⟨pa, pb⟩, hpp⟩ : ∃ p, p = l.getD j (0, 0) := ⟨_, rfl⟩
          obtain ⟨⟨qa, qb⟩, hqq⟩ : ∃ p, p = l.getD r (0, 0) := ⟨_, rfl⟩
          rw [← hpp] at r0 r1 AB
          rw [← hqq] at q0 q1 AB
          dsimp only at r0 r1 q0 q1 AB
          have b1 : (0 : Int) ≤ (r : Nat) := by omega
          have b2 : ((r : Nat) : Int) < (m : Nat) := by omega
          have b3 : (0 : Int) ≤ (j : Nat) + 1 := by omega
          have b4 : IntKind.i64.wrap ((j : Int) + 1) = (j : Int) + 1 := by rw [IntKind.wrap_i64]; omega
          have b5 : ((j : Int) + 1).tmod (m : Nat) = (r : Nat) := by rw [Int.tmod_eq_emod_of_nonneg b3]; exact er
          have b6 : ¬ (m : Int) = 0 := by omega
          have b8 : ¬ m = 0 := by omega
          have b9 : (m == 0) = false := by simp; omega
          have b7 : IntKind.i64.wrap ((r : Nat) : Int) = (r : Nat) := by rw [IntKind.wrap_i64]; omega
          have j0' : (0 : Int) ≤ (j : Nat) := by omega
          have j1' : ((j : Nat) : Int) < (m : Nat) := by omega
          have S0 := hid (show wr.drew.cell? ⟨g, q + j * 2, none⟩ = some (.int .i64 pa) ∧ wr.drew.cell? ⟨g, q + j * 2 + 1, none⟩ = some (.int .i64 pb) ∧ wr.drew.cell? ⟨g, q + r * 2, none⟩ = some (.int .i64 qa) ∧ wr.drew.cell? ⟨g, q + r * 2 + 1, none⟩ = some (.int .i64 qb) from ⟨r0, r1, q0, q1⟩)
          have HBD := hid (show Below w.heap.size w wr.drew from hb.out.trans ⟨rfl, rfl, rfl, Nat.le_refl _, fun _ _ => rfl⟩)
          have hgd : g < wr.drew.heap.size := by show g < wr.heap.size; omega
          clear hpp hqq hr hu NX E2 HP HS HM HL er
          go_wp2_with fail
          go_region_held3 (fun w' => w'.cell? ⟨g, q + j * 2, none⟩ = some (.int .i64 pa) ∧ w'.cell? ⟨g, q + j * 2 + 1, none⟩ = some (.int .i64 pb) ∧ w'.cell? ⟨g, q + r * 2, none⟩ = some (.int .i64 qa) ∧ w'.cell? ⟨g, q + r * 2 + 1, none⟩ = some (.int .i64 qb))
            (first | exact S0.out | exact (by assumption : _ ∧ _ ∧ _ ∧ _))
            (first | (go_at_call 87; refine (AB.out _).mono ?_; rintro e w2 ⟨rfl, hb2⟩; have hS2 : w2.cell? ⟨g, q + j * 2, none⟩ = some (.int .i64 pa) ∧ w2.cell? ⟨g, q + j * 2 + 1, none⟩ = some (.int .i64 pb) ∧ w2.cell? ⟨g, q + r * 2, none⟩ = some (.int .i64 qa) ∧ w2.cell? ⟨g, q + r * 2 + 1, none⟩ = some (.int .i64 qb) := ⟨(hb2.cell (p := ⟨g, q + j * 2, none⟩) hgd).trans S0.out.1, (hb2.cell (p := ⟨g, q + j * 2 + 1, none⟩) hgd).trans S0.out.2.1, (hb2.cell (p := ⟨g, q + r * 2, none⟩) hgd).trans S0.out.2.2.1, (hb2.cell (p := ⟨g, q + r * 2 + 1, none⟩) hgd).trans S0.out.2.2.2⟩; have B2 := hid (show Below w.heap.size w w2 from HBD.out.trans (hb2.mono HBD.out.size)); clear hb2))
          clear r0 r1 q0 q1 S0 hS2 b1 b2 b3 b4 b5 b6 b7 b8 b9
          go_wp2
          go_roundw
          case rel => exact ⟨j + 1, wrap64 (v + u), by omega, by go_num, rfl, VN, B2⟩
          case measure => simp [intOf]; omega
        · have ZN := hid (show v = wrap64 (totW L x y (k + 1)) by rw [TS.out, hV.out, show j = m by omega])
          have hj' : ((m : Nat) : Int) ≤ (j : Nat) := by omega
          go_wp2
          go_roundw
          case rel => exact ⟨k + 1, v, by omega, by go_num, rfl, ZN, hb⟩
          case measure => simp [intOf]; omega
    · have hk' : ((n : Nat) : Int) ≤ (k : Nat) := by omega
      have ek : k = n := by omega
      go_wp2
      go_ret
      exact ⟨ret_int (by rw [hZ.out, ek]), hb.out⟩

end Go.Proofs.YtljfiefobnncaabGreatDoor

/- Package fill: Fill; outline.Fill; the document's Fill. -/
namespace Go.Proofs.YtljfiefobnncaabGreatDoor
open Go.RowKit

/-- The pixel number k. -/
def fpx (L : List ShT) (W : Nat) (r : Int) (k : Nat) : UInt8 := pxV (wrap64 (totW L ((k % W : Nat) : Int) ((k / W : Nat) : Int) L.length)) r
def fpxs (L : List ShT) (W : Nat) (r : Int) (n : Nat) : List UInt8 := (List.range n).map (fpx L W r)
theorem fpxs_succ (L : List ShT) (W : Nat) (r : Int) (n : Nat) : fpxs L W r (n + 1) = fpxs L W r n ++ [fpx L W r n] := by simp [fpxs, List.range_succ]
theorem fpxs_len (L : List ShT) (W : Nat) (r : Int) (n : Nat) : (fpxs L W r n).length = n := by simp [fpxs]
theorem fpx_at (L : List ShT) (W : Nat) (r : Int) (y x : Nat) (hx : x < W) : fpx L W r (y * W + x) = pxV (wrap64 (totW L (x : Int) (y : Int) L.length)) r := by
  unfold fpx
  rw [Nat.mul_comm, Nat.mul_add_mod, Nat.mod_eq_of_lt hx, Nat.mul_add_div (by omega), Nat.div_eq_of_lt hx, Nat.add_zero]

set_option maxRecDepth 4000 in
set_option maxHeartbeats 2000000 in
theorem pkgFill_yes (ao : Option Addr) (n cap : Nat) (L : List ShT) (hn : n = L.length) (hn2 : n ≤ 140737488355328) (hm : ∀ i, (L.getD i sh0).1.length ≤ 140737488355328) (hL : plB L = true) (V U : Nat) (r : Int) (V1 : 1 ≤ V) (V2 : V ≤ 32) (U1 : 1 ≤ U) (U2 : U ≤ 32) (hr : (r == 0 || r == 1) = true) (w : World) (hS : ShIs ao L w) :
    Calls Tryz.prog 58 #[.slice ao n cap, .int .i64 V, .int .i64 U, .int .i64 r] w fun e w' => e = .returned (.tuple #[.agg #[.int .i64 V, .int .i64 U, .string ⟨(fpxs L V r (U * V)).toArray⟩], .int .i64 0]) ∧ Below w.heap.size w w' := by
  obtain ⟨i0, hi, hz0, hz1, hz2⟩ := info_parts infoByte
  have hv := Pm.sideB_yes (n := (V : Int)) (by omega) (by omega)
  have hu := Pm.sideB_yes (n := (U : Int)) (by omega) (by omega)
  have MB := hid (fun W' (h : Below w.heap.size w W') => shapesMay_any ao n cap L hn hn2 hm W' (hS.on h))
  rw [hL] at MB
  have WA := hid (fun x y (a : 0 ≤ x) (b : x ≤ 32) (c : 0 ≤ y) (d : y ≤ 32) W' (h : Below w.heap.size w W') => windingOfAll_any ao n cap L hn hn2 hm hL x y a b c d W' (hS.on h))
  have PA := hid (fun y x (h : x < V) => fpx_at L V r y x h)
  rw [← hn] at PA
  have RR := hid hr
  clear hS hm hn hL hr
  go_enter Tryz.func58, Tryz.ntmps58
  go_wp2_with (first | (go_at_call 83; refine (isSide_any _ _).mono ?_; rintro e w' ⟨rfl, rfl⟩; first | rw [hv] | rw [hu]) | (go_at_call 84; refine (isRule_any _ _).mono ?_; rintro e w' ⟨rfl, rfl⟩; rw [RR.out]))
  refine (MB.out _ (by go_grown)).mono ?_
  rintro e X ⟨rfl, hb1⟩
  have XB := hid (show Below w.heap.size w X from Below.trans (b := _) (by go_grown) (hb1.mono (by simp)))
  have Y := hid ((Box3.new w (.int .i64 0) (.int .i64 0) (.string ⟨#[]⟩) 30).on hb1)
  have XS : w.heap.size + 1 ≤ X.heap.size := by have := hb1.size; simpa using this
  clear hb1
  go_wp2_with fail
  go_loopw [10, 11] (fun v yv wr => ∃ y : Nat, y ≤ U ∧ yv = .int .i64 y ∧ Hid (wr.ownsRow X.heap.size 5 1 v (y * V) (cellsOf (fpxs L V r (y * V)))) ∧ Hid (Below X.heap.size X wr)) (fun _ i _ => U - (intOf i).toNat)
  case atStart => exact ⟨0, by omega, rfl, by rw [Nat.zero_mul]; exact World.ownsRow_nil _ _ _ _, Below.refl _ _⟩
  case round =>
    obtain ⟨y, hy, rfl, hO, hB⟩ := hrel
    by_cases hlt : y < U
    · go_wp2_with fail
      have vy : (y + 1) * V = y * V + V := by rw [Nat.add_mul, Nat.one_mul]
      have vb : y * V + V ≤ 1024 := by rw [← vy]; exact Nat.mul_le_mul (show y + 1 ≤ 32 by omega) V2
      have VY := hid vy
      obtain ⟨q, hq⟩ : ∃ q, q = y * V := ⟨_, rfl⟩
      rw [← hq] at vb VY hO
      have HQ := hid hq
      clear vy hq
      go_loopw [10, 12] (fun v xv wr => ∃ x : Nat, x ≤ V ∧ xv = .int .i64 x ∧ Hid (wr.ownsRow X.heap.size 5 1 v (q + x) (cellsOf (fpxs L V r (q + x)))) ∧ Hid (Below X.heap.size X wr)) (fun _ i _ => V - (intOf i).toNat)
      case atStart => exact ⟨0, by omega, rfl, hO, hB⟩
      case round =>
        clear hO hB
        obtain ⟨x, hx, rfl, hO, hB⟩ := hrel
        have hsz := hB.out.size
        by_cases hlx : x < V
        · have PX := hid (show fpx L V r (q + x) = pxV (wrap64 (totW L (x : Int) (y : Int) n)) r by rw [HQ.out]; exact PA.out y x hlx)
          have PSU := hid (fpxs_succ L V r (q + x))
          have KX := hid (WA.out (x : Int) (y : Int) (by omega) (by omega) (by omega) (by omega) wr (XB.out.trans (hB.out.mono (by omega))))
          obtain ⟨z, hz⟩ : ∃ z, z = wrap64 (totW L (x : Int) (y : Int) n) := ⟨_, rfl⟩
          have zi := wrap_inside (totW L (x : Int) (y : Int) n)
          rw [← hz] at PX KX zi
          clear hz
          go_wp2_with fail
          refine KX.out.mono ?_
          rintro e w3 ⟨rfl, hb3⟩
          have B3 := hid (show Below X.heap.size X w3 from hB.out.trans (hb3.mono hsz))
          have O3 := hid (own_below hO.out hb3)
          have z3 := B3.out.size
          have PV := hid (fun W' => pixel_any z r zi.1 zi.2 W')
          obtain ⟨c, hc⟩ : ∃ c, c = pxV z r := ⟨_, rfl⟩
          rw [← hc] at PX PV
          clear hb3 hc KX
          go_wp2_with fail
          refine (PV.out _).mono ?_
          rintro e w4 ⟨rfl, hb4⟩
          have B4 := hid (show Below X.heap.size X w4 from B3.out.trans (hb4.mono z3))
          have O4 := hid (own_below O3.out hb4)
          have z4 := B4.out.size
          have m1 : q + x + 1 ≤ maxLen := by unfold maxLen; omega
          have m2 : (q + x + 1) * 1 ≤ 140737488355328 := by omega
          clear hb4
          go_wp2_with (first
            | (at_builtin; refine wpList_append_own _ rfl _ _ 79 rfl X.heap.size 5 i0 (.int .u8 0) 1 1 Tryz.underlying79 hi hz0 hz1 hz2 rfl (by decide) _ _ _ rfl (O4.out.alloc _) ⟨_, 0, none⟩ 1 1 [.int .u8 c.toNat] rfl rfl (cell_one_new _ _ _) (by intro u hu; simp at hu; subst hu; rfl) m1 m2 (by simp; omega) ?_))
          intro v' w5 hown' hgrow _
          have B5 := hid (show Below X.heap.size X w5 from (B4.out.alloc (by omega) _).grown hgrow (by simp; omega) (fun k hk => (O4.out.lt k hk).1))
          have O5 := hid (show w5.ownsRow X.heap.size 5 1 v' (q + (x + 1)) (cellsOf (fpxs L V r (q + (x + 1)))) by rw [← Nat.add_assoc, PSU.out, PX.out, cellsOf_snoc]; exact hown')
          clear hown' hgrow
          go_wp2
          go_roundw
          case rel => exact ⟨x + 1, by omega, by go_num, O5, B5⟩
          case measure => simp [intOf]; omega
        · have ex : x = V := by omega
          have O5 := hid (show wr.ownsRow X.heap.size 5 1 _ ((y + 1) * V) (cellsOf (fpxs L V r ((y + 1) * V))) by rw [VY.out]; rw [ex] at hO; exact hO.out)
          have hlx' : ¬ (x : Int) < (V : Nat) := by omega
          go_wp2
          go_roundw
          case rel => exact ⟨y + 1, by omega, by go_num, O5, hB⟩
          case measure => simp [intOf]; omega
    · have ey : y = U := by omega
      subst ey
      have hly : ¬ (y : Int) < (y : Nat) := by omega
      obtain ⟨l, hl⟩ : ∃ l, l = fpxs L V r (y * V) := ⟨_, rfl⟩
      have LL := hid (show l.length = y * V by rw [hl, fpxs_len])
      rw [← hl] at hO
      have HLL := hid hl
      have vp : 0 < y * V := Nat.mul_pos (by omega) (by omega)
      rw [← LL.out] at hO vp
      have hown := hO.out
      obtain ⟨⟨b0, b1, b2⟩, ⟨g0, g1, g2⟩, -, bz⟩ := Y.out.on (hB.out)
      have BW := hid (show Below w.heap.size w wr from XB.out.trans (hB.out.mono (by omega)))
      rcases hown.2 with ⟨-, h0⟩ | ⟨g, cap, cur, rfl, -, -, -, -, -, -⟩
      · omega
      · have hcv := run_convert_bytes_back (P := Tryz.prog) wr 79 9 5 ⟨g, 0, none⟩ cap l Tryz.underlying79 Tryz.underlying5 Tryz.underlying9 (fun j hj => hown.cells (g := g) rfl j _ (by simp [cellsOf, hj]))
        clear hl hown hO
        go_wp2
        refine bodyPost_ret (v := .tuple #[.agg #[.int .i64 V, .int .i64 y, .string ⟨l.toArray⟩], .int .i64 0]) (by simp [results, Tryz.results58, go_sem, World.cell?_setCell_other, World.cell?_setCell_same', *]) rfl ?_
        exact ⟨by rw [HLL.out], by go_grown; exact BW.out⟩

end Go.Proofs.YtljfiefobnncaabGreatDoor
