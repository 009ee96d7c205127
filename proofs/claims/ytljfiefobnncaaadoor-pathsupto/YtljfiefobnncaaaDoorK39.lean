/- outlinelaw: written, shaped. -/
import Derived.Test.YtljfiefobnncaaaDoorK18
import Derived.Test.YtljfiefobnncaaaDoorK27
import Derived.Test.YtljfiefobnncaaaDoorK30
import Derived.Test.YtljfiefobnncaaaDoorK38
namespace Go.Proofs.YtljfiefobnncaaaDoor
open Go.RowKit
attribute [local go_sem ↓] Go.wp_at_zero Go.wp_at_succ

set_option maxRecDepth 4000 in
set_option maxHeartbeats 2000000 in
theorem written_any (ao : Option Addr) (n cap : Nat) (L : List ShT) (hn : n = L.length) (hn2 : n ≤ 1073741824) (hm : ∀ i, (L.getD i sh0).1.length ≤ 1073741824) (hT : (Pm.pathL (ptsS L)).length ≤ 1073741824) (w : World) (hS : ShIs ao L w) :
    Calls Tryd.prog 13 #[.slice ao n cap] w fun e w' => e = .returned (.bool true) ∧ Below w.heap.size w w' := by
  have RO := hid (roomy_any ao n cap L hn (by omega) (fun i => by have := hm i; omega) w hS)
  have PF := hid (fun gl W' (h : RoomIs gl n L W') => path_any (some ⟨gl, 0, none⟩) n (n + 1) L hn hn2 hm hT W' (h.sh hn))
  have RF := hid (fun W' (h : Below w.heap.size w W') => refPath_any ao n cap L hn hn2 hm hT W' (hS.on h))
  have WH := hid (fun gl W' (h : RoomIs gl n L W') (hb : Below w.heap.size w W') => whole_any gl ao n cap L hn (by omega) (fun i => by have := hm i; omega) W' h (hS.on hb))
  have NF := hid (fun (h : n = 0) W' => path_any none 0 0 L (by omega) (by omega) hm hT W' (.inl (by omega)))
  have h : ∃ (c : ByteArray) (d : Int), pathOut L = .tuple #[.string c, .int .i64 d] := by unfold pathOut; split <;> exact ⟨_, _, rfl⟩
  obtain ⟨c, d, e⟩ := h
  rw [e] at PF RF NF
  clear e hS hn hm hT
  go_enter Tryd.func13, Tryd.ntmps13
  go_wp2_with fail
  refine RO.out.mono ?_
  rintro e w1 ⟨⟨gl, rfl, hR⟩, hb1⟩
  have R1 := hid hR
  have B1 := hid hb1
  clear hR hb1
  go_wp2_with fail
  refine (PF.out gl _ R1.out).mono ?_
  rintro e w2 ⟨rfl, hb2⟩
  have R2 := hid (R1.out.on hb2)
  have B2 := hid (show Below w.heap.size w w2 from B1.out.trans (hb2.mono B1.out.size))
  clear hb2
  go_wp2_with fail
  refine (RF.out _ B2.out).mono ?_
  rintro e w3 ⟨rfl, hb3⟩
  have R3 := hid (R2.out.on hb3)
  have B3 := hid (show Below w.heap.size w w3 from B2.out.trans (hb3.mono B2.out.size))
  clear hb3
  go_wp2_with fail
  refine (WH.out gl _ R3.out B3.out).mono ?_
  rintro e w4 ⟨rfl, hb4⟩
  have B4 := hid (show Below w.heap.size w w4 from B3.out.trans (hb4.mono B3.out.size))
  clear hb4
  by_cases h0 : n = 0
  · have N0 := hid (NF.out h0)
    have e0 : ((n : Int) == 0) = true := by simp [h0]
    clear h0
    go_wp2_with fail
    refine (N0.out _).mono ?_
    rintro e w5 ⟨rfl, hb5⟩
    have B5 := hid (show Below w.heap.size w w5 from B4.out.trans (hb5.mono B4.out.size))
    clear hb5
    go_wp2
    go_ret
    exact ⟨rfl, B5.out⟩
  · have e0 : ((n : Int) == 0) = false := by simp [h0]
    clear h0
    go_wp2
    go_ret
    exact ⟨rfl, B4.out⟩

set_option maxRecDepth 4000 in
set_option maxHeartbeats 2000000 in
theorem bookShaped_any (kb N : Nat) (vp vs : Value) (P S : List Rec) (s : ByteArray) (hs : s.size ≤ 100000000) (w : World) (hO : OBook kb N vp vs P S w) (hN : N ≤ 1000000000) :
    Calls Tryd.prog 14 #[.pointer (some ⟨kb, 0, none⟩), .string s] w fun e w' => e = .returned (.bool true) ∧ ∃ N' vp' vs' P' S', OBook kb N' vp' vs' P' S' w' ∧ N' ≤ N + s.size + 1 ∧ Fr (fun k => k = kb ∨ vp.ownBlock = some k ∨ vs.ownBlock = some k) w w' := by
  have HO := hid hO
  have SH := hid (shapes_any s (by omega) w)
  have RS := hid (fun W => refShapes_any s (by omega) W)
  have ls : s.data.toList.length = s.size := by simp
  obtain ⟨l, hl⟩ : ∃ l, l = s.data.toList := ⟨_, rfl⟩
  rw [← hl] at SH RS ls
  have LS := hid ls
  clear hO hl ls
  go_enter Tryd.func14, Tryd.ntmps14
  go_wp2_with fail
  refine SH.out.mono ?_
  rintro e w1 ⟨⟨v1, e1, p1, rfl, o1⟩, b1⟩
  have B1 := hid b1
  have O1 := hid o1
  clear b1 o1
  go_wp2_with fail
  refine (RS.out _).mono ?_
  rintro e w2 ⟨⟨v2, e2, p2, rfl, o2⟩, b2⟩
  have B2 := hid (show Below w.heap.size w w2 from B1.out.trans (b2.mono B1.out.size))
  have BB := hid b2
  clear b2
  rcases O1.out with ⟨rfl, rfl, La, rowA, bigA, lenA, sayA⟩ | ⟨rfl, he1, sayA⟩
  · rcases o2 with ⟨rfl, rfl, Lm, rowM, bigM, lenM, sayM⟩ | ⟨rfl, he2, sayM⟩
    · have EQ := hid (show La.map (·.2) = Lm.map (·.2) by have := sayA.unique sayM; injection this)
      have RW2 := hid (rowA.on BB.out)
      have RF2 := hid rowM
      have POS := hid (show ∀ p ∈ La, 0 < p.2.length ∧ p.2.length ≤ 100000000 from fun p hp => ⟨(bigA p hp).1, by have := (bigA p hp).2.2; have := LS.out; omega⟩)
      have POM := hid (show ∀ p ∈ Lm, 0 < p.2.length from fun p hp => (bigM p hp).1)
      have LN := hid (show La.length ≤ s.size by have := LS.out; omega)
      obtain ⟨ao, cap, rfl⟩ := own_len rowA.row
      obtain ⟨ao2, cap2, rfl⟩ := own_len rowM.row
      clear rowA rowM bigA bigM sayA sayM lenA lenM O1
      go_wp2_with fail
      refine (sameP_any _ _ La Lm _ EQ.out (RW2.out.shown fun p hp => (POS.out p hp).1) (RF2.out.shown POM.out) (own_max RW2.out.row) (fun p hp => by have := (POS.out p hp).2; omega)).mono ?_
      rintro e w3 ⟨rfl, b3⟩
      have B3 := hid (B2.out.trans (b3.mono B2.out.size))
      have RW3 := hid (RW2.out.on b3)
      clear b3
      go_wp2_with fail
      refine (keepP_any w.heap.size _ La kb N vp vs P S _ (HO.out.below B3.out) RW3.out (fun p hp => (POS.out p hp).1) (fun p hp => by have := (POS.out p hp).2; omega) (by have := LN.out; omega) (by omega) (fun p hp => apP_new HO.out (fun k hk => by have := ((RW3.out.pts p hp).lt k hk).1; omega)) (apP_new HO.out (fun k hk => by have := (RW3.out.row.lt k hk).1; omega))).mono ?_
      rintro e w4 ⟨rfl, N', vp', vs', P', S', ho, hn', hfr⟩
      have OB := hid ho
      have FR := hid hfr
      clear ho hfr
      go_wp2
      go_ret
      have z3 := B3.out.size
      have fr2 : Fr (fun k => k = kb ∨ vp.ownBlock = some k ∨ vs.ownBlock = some k) w w4 := by
        refine ⟨FR.out.os.trans B3.out.os, FR.out.tape.trans B3.out.tape, FR.out.output.trans B3.out.output, Nat.le_trans z3 FR.out.size, fun k hk hc => (FR.out.block k (by omega) (fun hc2 => ?_)).trans (B3.out.block k hk)⟩
        rcases hc2 with e | e | e | e | ⟨p, hp, e⟩
        · exact hc (.inl e)
        · exact hc (.inr (.inl e))
        · exact hc (.inr (.inr e))
        · have := (RW3.out.row.lt k e).1; omega
        · have := ((RW3.out.pts p hp).lt k e).1; omega
      exact ⟨rfl, N', vp', vs', P', S', OB.out, by have := LN.out; omega, fr2⟩
    · exfalso
      have := sayA.unique sayM
      cases this
  · rcases o2 with ⟨rfl, rfl, Lm, rowM, bigM, lenM, sayM⟩ | ⟨rfl, he2, sayM⟩
    · exfalso
      have := sayA.unique sayM
      cases this
    · have EQ : e1 = e2 ∧ p1 = p2 := by
        have := sayA.unique sayM
        injection this with this
        injection this with a b
        exact ⟨a, b⟩
      obtain ⟨rfl, rfl⟩ := EQ
      clear sayA sayM he1 he2 O1
      go_wp2_with fail
      refine (sameP_any (.slice none 0 0) (.slice none 0 0) [] [] _ rfl ((RowP.nil 0 _).shown (by simp)) ((RowP.nil 0 _).shown (by simp)) (by simp) (by simp)).mono ?_
      rintro e w3 ⟨rfl, b3⟩
      have B3 := hid (B2.out.trans (b3.mono B2.out.size))
      clear b3
      go_wp2_with fail
      refine (keepP_any 0 (.slice none 0 0) [] kb N vp vs P S _ (HO.out.below B3.out) (RowP.nil 0 _) (by simp) (by simp) (by simp) (by omega) (by simp) (fun k hk => by simp [Value.ownBlock] at hk)).mono ?_
      rintro e w4 ⟨rfl, N', vp', vs', P', S', ho, hn', hfr⟩
      have OB := hid ho
      have FR := hid hfr
      clear ho hfr
      go_wp2
      go_ret
      refine ⟨rfl, N', vp', vs', P', S', OB.out, by simp at hn'; omega, (Fr.below B3.out).trans (FR.out.imp ?_)⟩
      intro k _ hk
      rcases hk with hk | hk | hk | hk | ⟨p, hp, _⟩
      · exact .inl hk
      · exact .inr (.inl hk)
      · exact .inr (.inr hk)
      · simp [Value.ownBlock] at hk
      · simp at hp

set_option maxRecDepth 4000 in
set_option maxHeartbeats 1000000 in
theorem pathsLaw_any (ao : Option Addr) (n cap : Nat) (L : List ShT) (s : ByteArray) (hn : n = L.length) (hn2 : n ≤ 1073741824) (hm : ∀ i, (L.getD i sh0).1.length ≤ 1073741824) (hT : (Pm.pathL (ptsS L)).length ≤ 1073741824) (hs : s.size ≤ 100000000) (w : World) (hS : ShIs ao L w) :
    Calls Tryd.prog 6 #[.slice ao n cap, .string s] w fun e w' => e = .returned (.bool true) ∧ Below w.heap.size w w' := by
  have WR := hid (fun W' (h : Below w.heap.size w W') => written_any ao n cap L hn hn2 hm hT W' (hS.on h))
  clear hn hm hT hS
  go_enter Tryd.func6, Tryd.ntmps6
  go_wp2_with fail
  have BA := hid (show Below w.heap.size w (w.alloc (.cells #[.int .i64 0, .slice none 0 0, .slice none 0 0] 40)) by go_grown)
  refine (WR.out _ BA.out).mono ?_
  rintro e w1 ⟨rfl, b1⟩
  have HN := hid ((OBook.newP w.heap.size (w.alloc (.cells #[.int .i64 0, .slice none 0 0, .slice none 0 0] 40)) (by simp) (by simp [go_sem]) (by simp [go_sem]) (by simp [go_sem]) (fun j => by simp [go_sem])).below b1)
  have B1 := hid (show Below w.heap.size w w1 from BA.out.trans (b1.mono BA.out.size))
  have z1 := b1.size
  simp at z1
  clear b1
  go_wp2_with fail
  refine (bookShaped_any _ 0 _ _ [] [] s hs _ HN.out (by omega)).mono ?_
  rintro e w2 ⟨rfl, N', vp', vs', P', S', ho, -, hfr⟩
  have B2 := hid (show Below w.heap.size w w2 from by
    have z := hfr.size
    refine B1.out.trans ⟨hfr.os, hfr.tape, hfr.output, hfr.size, fun k hk => hfr.block k (by omega) (fun hc => ?_)⟩
    rcases hc with e | e | e
    · omega
    · simp [Value.ownBlock] at e
    · simp [Value.ownBlock] at e)
  have OB := hid ho
  clear ho hfr
  go_wp2_with fail
  refine (looks_any _ _ _ _ _ _ _ OB.out.book).mono ?_
  rintro e w3 ⟨rfl, b3⟩
  have B3 := hid (B2.out.trans (b3.mono B2.out.size))
  clear b3
  go_wp2
  go_ret
  exact ⟨rfl, B3.out⟩

end Go.Proofs.YtljfiefobnncaaaDoor
