import Derived.Test.YtljfiefobnncaaaDoorK24
import Derived.Test.YtljfiefobnncaaaDoorK06
import Derived.Test.YtljfiefobnncaaaDoorK03

/- Reading paths: the whole; outline.Shapes. -/
namespace Go.Proofs.YtljfiefobnncaaaDoor
open Go.RowKit

/-- What reading a path gives. -/
def ShsOut (l : List UInt8) (b : Nat) (vl : Value) (ee : Int) (p : Nat) (w' : World) : Prop :=
  (ee = 0 ∧ p = 0 ∧ ∃ L : List (Value × List (Int × Int)), RowP b vl L w' ∧ (∀ q ∈ L, 0 < q.2.length ∧ Qm.Small q.2 ∧ q.2.length ≤ l.length) ∧ L.length ≤ l.length ∧ Pm.Says l (Pm.st0 l) (.ok (L.map (·.2)))) ∨
  (vl = .slice none 0 0 ∧ (ee = 1 ∨ ee = 2 ∨ ee = 3) ∧ Pm.Says l (Pm.st0 l) (.error (ee, p)))
theorem Says_of {l : List UInt8} {s t : Pm.St} {a : Pm.Ans} (h : Pm.Rch l s t) (k : Pm.Says l t a) : Pm.Says l s a := by
  obtain ⟨u, k1, k2⟩ := k
  exact ⟨u, h.trans k1, k2⟩
/-- What holds in Read's loop. -/
structure LI (l : List UInt8) (b j : Nat) (L : List (Value × List (Int × Int))) (v : Value) (w wr : World) : Prop where
  hi : j ≤ l.length
  few : L.length ≤ j
  row : RowP b v L wr
  pts : ∀ q ∈ L, 0 < q.2.length ∧ Qm.Small q.2 ∧ q.2.length ≤ l.length
  bl : Below b w wr
  rch : Pm.Rch l (Pm.st0 l) ⟨j, false, [], L.map (·.2)⟩

set_option maxRecDepth 4000 in
set_option maxHeartbeats 2000000 in
theorem pRead_any (s : ByteArray) (hs : s.size ≤ 1073741824) (w : World) :
    Calls Tryd.prog 48 #[.string s] w fun e w' => (∃ (v : Value) (ee : Int) (p : Nat), e = .returned (.tuple #[v, .int .i64 ee, .int .i64 p]) ∧ ShsOut s.data.toList w.heap.size v ee p w') ∧ Below w.heap.size w w' := by
  obtain ⟨i0, hi0, hz0, hz1, hz2⟩ := info_parts infoShape
  have ls : s.data.toList.length = s.size := by simp
  obtain ⟨l, hl⟩ : ∃ l, l = s.data.toList := ⟨_, rfl⟩
  have RS := hid (fun k (h : k < s.size) W => pReadShape_any s k h hs W)
  have SK := hid (fun k (h : k ≤ s.size) W => pSkip_any s k h (by omega) W)
  rw [← hl] at RS SK ls ⊢
  have LS := hid ls
  have k0 := Pm.skp_le (l := l) (i := 0) (Nat.zero_le _)
  have SK0 := hid (SK.out 0 (Nat.zero_le _))
  have I0 := hid (show LI l w.heap.size (Pm.skp l 0) [] (.slice none 0 0) w w from ⟨k0, Nat.zero_le _, RowP.nil _ _, fun q hq => by simp at hq, Below.refl _ _, .refl _⟩)
  obtain ⟨j0, hj0⟩ : ∃ j0, j0 = Pm.skp l 0 := ⟨_, rfl⟩
  rw [← hj0] at SK0 I0
  have SK1 := hid (show ∀ W, Calls Tryd.prog 64 #[.string s, .int .i64 0] W fun e w' => e = .returned (.int .i64 j0) ∧ w' = W from fun W => by simpa using SK0.out W)
  clear hl hj0 k0 SK0
  go_enter Tryd.func48, Tryd.ntmps48
  go_wp2_with fail
  refine (SK1.out _).mono ?_
  rintro e w1 ⟨rfl, e1⟩
  subst e1
  go_wp2_with fail
  go_loopw [5, 6] (fun v jv wr => ∃ (j : Nat) (L : List (Value × List (Int × Int))), jv = .int .i64 j ∧ Hid (LI l w1.heap.size j L v w1 wr)) (fun _ jv _ => l.length - (intOf jv).toNat)
  case atStart => exact ⟨j0, [], rfl, I0⟩
  case round =>
    clear I0
    obtain ⟨j, L, rfl, hI⟩ := hrel
    have hj := hI.out.hi
    have few := hI.out.few
    have hz := hI.out.bl.size
    obtain ⟨ao, cap, hv⟩ := own_len hI.out.row.row
    subst hv
    by_cases hlt : j < l.length
    · have R1 := hid (RS.out j (by omega))
      have j1' : ((j : Nat) : Int) < (s.size : Nat) := by omega
      go_wp2_with fail
      refine (R1.out _).mono ?_
      rintro e w2 ⟨⟨v2, k, ee, rfl, ho⟩, hb2⟩
      have HB2 := hid hb2
      have B2 := hid (show Below w1.heap.size w1 w2 from hI.out.bl.trans (hb2.mono hz))
      have s2 := B2.out.size
      have z2 := hb2.size
      clear hb2
      rcases ho with ⟨rfl, pts, p0, psm, pown, hjk, hkl, pfew, prch⟩ | ⟨rfl, he, hkl, hsay⟩
      · obtain ⟨g, cp, rfl, hg, hpt, -⟩ := own_at pown p0
        have OW := hid pown
        have PT := hid hpt
        have TW := hid (twice_big g pts.length cp pts rfl p0 psm (by omega) w2 hpt)
        have P0 := hid p0
        have PS := hid psm
        have RC := hid prch
        have S1 := hid (SK.out k (by omega))
        have kge := Pm.skp_ge l k
        have kle := Pm.skp_le hkl
        obtain ⟨k2, hk2⟩ : ∃ k2, k2 = Pm.skp l k := ⟨_, rfl⟩
        rw [← hk2] at S1 RC kge kle
        obtain ⟨m, hm⟩ : ∃ m, m = pts.length := ⟨_, rfl⟩
        rw [← hm] at TW ⊢
        have HMM := hid hm
        obtain ⟨tw, htw⟩ : ∃ tw, tw = Qm.twiceOf pts := ⟨_, rfl⟩
        rw [← htw] at TW
        have HTW := hid htw
        have n1 : L.length + 1 ≤ maxLen := by unfold maxLen; omega
        have n2 : (L.length + 1) * 32 ≤ 140737488355328 := by omega
        clear pown hpt p0 psm prch hk2 hm htw
        go_wp2_with fail
        refine TW.out.mono ?_
        rintro e w4 ⟨rfl, b4⟩
        have HB4 := hid b4
        have z4 := b4.size
        clear b4
        have n3 : w1.heap.size ≤ (w4.alloc (.cells #[.slice (some ⟨g, 0, none⟩) m cp, .int .i64 tw] 81)).heap.size := by simp; omega
        have R4 := hid ((hI.out.row.on HB2.out).on HB4.out)
        go_wp2_with (first
          | (at_builtin; refine wpList_append_own_at _ rfl _ _ 35 rfl w1.heap.size 81 i0 (.agg #[.slice none 0 0, .int .i64 0]) 2 32 Tryd.underlying35 hi0 hz0 hz1 hz2 rfl (by decide) _ _ _ rfl (R4.out.row.alloc _) ⟨_, 0, none⟩ 1 1 [.slice (some ⟨g, 0, none⟩) m cp, .int .i64 tw] rfl rfl (vt_cells _ _ _ _ _ _ _ rfl) (vt_one _ _ _ _) n1 n2 n3 ?_))
        intro vl' w5 o5 g5 _ e5
        have RP5 := hid (hI.out.row.snoc (v := .slice (some ⟨g, 0, none⟩) m cp) (l := pts) (vl' := vl') (by omega) HB2.out (by have := OW.out; rw [← HMM.out] at this ⊢; exact this) P0.out HB4.out (by rw [← HTW.out]; exact o5) g5 (by simpa using e5))
        have B5 := hid (show Below w1.heap.size w1 w5 from ((B2.out.trans (HB4.out.mono (by omega))).alloc (by omega) _).grown g5 n3 (fun q hq => (R4.out.row.lt q hq).1))
        have NI := hid (show LI l w1.heap.size k2 (L ++ [(.slice (some ⟨g, 0, none⟩) m cp, pts)]) vl' w1 w5 from ⟨kle, by rw [List.length_append, List.length_singleton]; omega, RP5.out, fun q hq => by
          rcases List.mem_append.1 hq with h | h
          · exact hI.out.pts q h
          · rw [List.mem_singleton] at h; subst h; exact ⟨P0.out, PS.out, by show pts.length ≤ _; omega⟩, B5.out, by rw [List.map_append]; exact hI.out.rch.trans (RC.out _)⟩)
        clear o5 g5 e5
        go_wp2_with fail
        refine (S1.out _).mono ?_
        rintro e w6 ⟨rfl, e6⟩
        subst e6
        go_wp2
        go_roundw
        case rel => exact ⟨k2, _, rfl, NI⟩
        case measure => simp [intOf]; omega
      · have e0 := err_ne he
        have WG := hid (Says_of hI.out.rch (hsay _))
        have HE := hid he
        clear he hsay
        go_wp2
        go_ret3
        exact ⟨⟨_, ee, k, rfl, .inr ⟨rfl, HE.out, WG.out⟩⟩, B2.out⟩
    · have j1' : ((s.size : Nat) : Int) ≤ (j : Nat) := by omega
      have WG := hid (show Pm.Says l (Pm.st0 l) (.ok (L.map (·.2))) from ⟨_, hI.out.rch, Pm.stp_end (by omega)⟩)
      obtain ⟨m, hm⟩ : ∃ m, m = L.length := ⟨_, rfl⟩
      have HMM := hid hm
      rw [← hm]
      clear hm
      go_wp2
      go_ret3
      exact ⟨⟨.slice ao m cap, 0, 0, rfl, .inl ⟨rfl, rfl, L, by have := hI.out.row; rw [← HMM.out] at this; exact this, hI.out.pts, by omega, WG.out⟩⟩, hI.out.bl⟩

set_option maxRecDepth 4000 in
set_option maxHeartbeats 400000 in
theorem shapes_any (s : ByteArray) (hs : s.size ≤ 1073741824) (w : World) :
    Calls Tryd.prog 32 #[.string s] w fun e w' => (∃ (v : Value) (ee : Int) (p : Nat), e = .returned (.tuple #[v, .int .i64 ee, .int .i64 p]) ∧ ShsOut s.data.toList w.heap.size v ee p w') ∧ Below w.heap.size w w' := by
  have R := hid (pRead_any s hs w)
  go_enter Tryd.func32, Tryd.ntmps32
  go_wp2_with fail
  refine R.out.mono ?_
  rintro e w1 ⟨⟨v, ee, p, rfl, ho⟩, hb⟩
  have HO := hid ho
  have HB := hid hb
  clear ho hb
  go_wp2
  go_ret3
  exact ⟨⟨v, ee, p, rfl, HO.out⟩, HB.out⟩

end Go.Proofs.YtljfiefobnncaaaDoor

/- outlineref.Black. -/
namespace Go.Proofs.YtljfiefobnncaaaDoor
open Go.RowKit

set_option maxRecDepth 4000 in
set_option maxHeartbeats 1000000 in
theorem black_any (W H : Nat) (s : ByteArray) (x y : Int) (w : World) (hw2 : W ≤ 32) (hh2 : H ≤ 32) (hl : s.size = W * H) :
    Calls Tryd.prog 25 #[.agg #[.int .i64 W, .int .i64 H, .string s], .int .i64 x, .int .i64 y] w fun e w' => e = .returned (.bool (Pm.blackB W H s.data.toList x y)) ∧ w' = w.alloc (.cells #[.int .i64 W, .int .i64 H, .string s] 23) := by
  have HL := Hid.out (p := Hid (s.size = W * H)) hl
  clear hl
  by_cases x0 : 0 ≤ x
  · by_cases y0 : 0 ≤ y
    · by_cases x1 : x < W
      · by_cases y1 : y < H
        · obtain ⟨x, rfl⟩ := Int.eq_ofNat_of_zero_le x0
          obtain ⟨y, rfl⟩ := Int.eq_ofNat_of_zero_le y0
          have hx : x < W := by omega
          have hy : y < H := by omega
          have sp := Pm.span W H y hy
          have ar := Pm.area_nat W H hw2 hh2
          obtain ⟨a, ha⟩ : ∃ a, a = y * W := ⟨_, rfl⟩
          have ea : (y : Int) * (W : Int) = (a : Nat) := by rw [ha]; simp
          have hab : a + x < s.size := by have := HL.out; omega
          have hb4 : a + x ≤ 1024 := by omega
          have E := Pm.blackB_in W H s.data.toList x y hx hy a ha
          have HE : Hid _ := E
          have HA : Hid _ := ha
          clear E ha sp ar
          by_cases q : (s[a + x].toNat : Int) = 49
          · go_enter Tryd.func25, Tryd.ntmps25
            go_wp2
            go_ret
            exact ⟨ret_bool (by rw [HE.out, Pm.bitAt_yes s _ hab q]), rfl⟩
          · have b0 : ((s[a + x].toNat : Int) == 49) = false := by simpa using q
            go_enter Tryd.func25, Tryd.ntmps25
            go_wp2
            go_ret
            exact ⟨ret_bool (by rw [HE.out, Pm.bitAt_no s _ hab q]), rfl⟩
        · have E := Pm.blackB_out W H s.data.toList x y (by omega)
          have HE : Hid _ := E
          clear E
          go_enter Tryd.func25, Tryd.ntmps25
          go_wp2
          go_ret
          exact ⟨ret_bool HE.out.symm, rfl⟩
      · have E := Pm.blackB_out W H s.data.toList x y (by omega)
        have HE : Hid _ := E
        clear E
        go_enter Tryd.func25, Tryd.ntmps25
        go_wp2
        go_ret
        exact ⟨ret_bool HE.out.symm, rfl⟩
    · have E := Pm.blackB_out W H s.data.toList x y (by omega)
      have HE : Hid _ := E
      clear E
      go_enter Tryd.func25, Tryd.ntmps25
      go_wp2
      go_ret
      exact ⟨ret_bool HE.out.symm, rfl⟩
  · have E := Pm.blackB_out W H s.data.toList x y (by omega)
    have HE : Hid _ := E
    clear E
    go_enter Tryd.func25, Tryd.ntmps25
    go_wp2
    go_ret
    exact ⟨ret_bool HE.out.symm, rfl⟩
end Go.Proofs.YtljfiefobnncaaaDoor
