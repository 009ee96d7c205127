import Derived.Test.YtljfiefobnncaaaDoorK08
import Derived.Test.YtljfiefobnncaaaDoorK06

/- walkFrom of package cycles. -/
namespace Go.Proofs.YtljfiefobnncaaaDoor
open Go.RowKit

/-- All sides that lead onward from points ahead of K are taken. -/
def Ahead (bl : Int → Int → Bool) (f : Qm.Sd → Qm.Sd) (R : List (Qm.Sd × Nat)) (K : Int) : Prop := ∀ t, Qm.isS bl t = true → Qm.key t < K → Qm.key t < Qm.key (f t) → Qm.Tk f R t

def WalkFromOut (g W H : Nat) (s : ByteArray) (pol : Nat) (draws : ByteArray) (spk : Int) (R : List (Qm.Sd × Nat)) (x y : Nat) (w : World) (v : Value) (w' : World) : Prop :=
  ∃ (n : Nat) (T : Nat → Bool) (R' : List (Qm.Sd × Nat)) (s0 : Qm.Sd), w'.ownsRow w.heap.size 83 2 v n (Qm.ptsV (Qm.ptsOf (fB W H s pol draws) (s0, n))) ∧ w.grownBy w' (some g) ∧ Wk g W H s pol draws spk w' ∧ Tkn g T w' ∧ n ≤ 4356 ∧
  Qm.Rep (Pm.blackB W H s.data.toList) (fB W H s pol draws) T R' ∧ Ahead (Pm.blackB W H s.data.toList) (fB W H s pol draws) R' (33 * (y : Int) + x + 1) ∧
  ((n = 0 ∧ R' = R) ∨ (0 < n ∧ R' = R ++ [(s0, n)] ∧ Qm.Canon (fB W H s pol draws) (bB W H s) Qm.key (s0, n) ∧ Qm.key s0 = 33 * (y : Int) + x))

section
variable {g W H : Nat} {s : ByteArray} {pol : Nat} {draws : ByteArray} {spk : Int} {R : List (Qm.Sd × Nat)} {w w' : World} {v : Value}

theorem up_iff {t : Qm.Sd} (h : t.2.2 < 4) : Qm.key t < Qm.key (fB W H s pol draws t) ↔ t.2.2 ≤ 1 := by
  rw [Qm.key_nx _ _ _ h]
  split
  · omega
  · split
    · omega
    · split <;> omega

theorem Ahead.found (hw : W ≤ 32) (hh : H ≤ 32) {x y d n : Nat} (hd : d ≤ 1) (hA : Ahead (Pm.blackB W H s.data.toList) (fB W H s pol draws) R (33 * (y : Int) + x)) (hc : Qm.Cyc (fB W H s pol draws) (bB W H s) ((x : Int), (y : Int), d) n) :
    Ahead (Pm.blackB W H s.data.toList) (fB W H s pol draws) (R ++ [(((x : Int), (y : Int), d), n)]) (33 * (y : Int) + x + 1) := by
  intro t ht hk hu
  have st := Qm.step (Qm.pic_of W H s.data.toList hw hh) (Qm.jnB W H s.data.toList pol draws.data.toList)
  by_cases e : Qm.key t < 33 * (y : Int) + x
  · obtain ⟨c, h1, h2⟩ := hA t ht e hu
    exact ⟨c, List.mem_append_left _ h1, h2⟩
  · have hk0 : Qm.key ((x : Int), (y : Int), d) = 33 * (y : Int) + x := rfl
    have := st.one t ((x : Int), (y : Int), d) ht hc.1 (by rw [hk0]; omega) hu ((up_iff (by show d < 4; omega)).2 hd)
    exact ⟨_, List.mem_append_right _ (List.mem_singleton.2 rfl), 0, hc.2.1, this⟩

theorem Ahead.none (hw : W ≤ 32) (hh : H ≤ 32) {x y : Nat} (hx : x ≤ 32) (hA : Ahead (Pm.blackB W H s.data.toList) (fB W H s pol draws) R (33 * (y : Int) + x))
    (h0 : Qm.isS (Pm.blackB W H s.data.toList) ((x : Int), (y : Int), 0) = false ∨ Qm.Tk (fB W H s pol draws) R ((x : Int), (y : Int), 0)) (h1 : Qm.isS (Pm.blackB W H s.data.toList) ((x : Int), (y : Int), 1) = false ∨ Qm.Tk (fB W H s pol draws) R ((x : Int), (y : Int), 1)) :
    Ahead (Pm.blackB W H s.data.toList) (fB W H s pol draws) R (33 * (y : Int) + x + 1) := by
  intro t ht hk hu
  by_cases e : Qm.key t < 33 * (y : Int) + x
  · exact hA t ht e hu
  · have hb := Qm.side_in (Qm.pic_of W H s.data.toList hw hh) ht
    have hd := (up_iff (Qm.isS_lt ht)).1 hu
    obtain ⟨a, b, d⟩ := t
    simp only [Qm.key] at hk e hb hd
    have e1 : a = x := by omega
    have e2 : b = y := by omega
    subst e1 e2
    rcases (show d = 0 ∨ d = 1 by omega) with rfl | rfl
    · exact h0.resolve_left (by rw [ht]; simp)
    · exact h1.resolve_left (by rw [ht]; simp)

/-- The walk downward finds a cycle, or the one to the right does, or neither. -/
theorem WalkOut.from1 (hw : W ≤ 32) (hh : H ≤ 32) {x y d n : Nat} {T : Nat → Bool} (hd : d ≤ 1) (hR : ∀ c ∈ R, Qm.Cyc (fB W H s pol draws) (bB W H s) c.1 c.2) (hA : Ahead (Pm.blackB W H s.data.toList) (fB W H s pol draws) R (33 * (y : Int) + x))
    (o : w'.ownsRow w.heap.size 83 2 v n (Qm.ptsV (Qm.ptsOf (fB W H s pol draws) (((x : Int), (y : Int), d), n)))) (hg : w.grownBy w' (some g)) (hk : Wk g W H s pol draws spk w') (ht : Tkn g T w') (hn : n ≤ 4356)
    (h0 : 0 < n) (hT : ¬ Qm.Tk (fB W H s pol draws) R ((x : Int), (y : Int), d)) (hc : Qm.Cyc (fB W H s pol draws) (bB W H s) ((x : Int), (y : Int), d) n) (hr : Qm.Rep (Pm.blackB W H s.data.toList) (fB W H s pol draws) T (R ++ [(((x : Int), (y : Int), d), n)])) :
    WalkFromOut g W H s pol draws spk R x y w v w' := by
  have st := Qm.step (Qm.pic_of W H s.data.toList hw hh) (Qm.jnB W H s.data.toList pol draws.data.toList)
  exact ⟨n, T, _, _, o, hg, hk, ht, hn, hr, hA.found hw hh hd hc, .inr ⟨h0, rfl, hc.canon st hR hT (fun t h1 h2 h3 => hA t h1 h2 h3), rfl⟩⟩
end

theorem own_len {w : World} {b : Nat} {t : TypeId} {sz : Nat} {v : Value} {n : Nat} {xs : List Value} (h : w.ownsRow b t sz v n xs) : ∃ ao cap, v = .slice ao n cap := by
  rcases h.2 with ⟨rfl, rfl⟩ | ⟨g, cap, cur, rfl, _⟩
  · exact ⟨_, _, rfl⟩
  · exact ⟨_, _, rfl⟩

end Go.Proofs.YtljfiefobnncaaaDoor
/- IsOne and Good: is it a bitmap? -/
namespace Go.Proofs.YtljfiefobnncaaaDoor
open Go.RowKit

set_option maxRecDepth 4000 in
set_option maxHeartbeats 400000 in
theorem isOne_any (W H : Int) (s : ByteArray) (w : World) :
    Calls Tryd.prog 43 #[.agg #[.int .i64 W, .int .i64 H, .string s]] w fun e w' => e = .returned (.bool (Pm.goodB W H s.data.toList)) ∧ w' = w.alloc (.cells #[.int .i64 W, .int .i64 H, .string s] 23) := by
  cases hw : Pm.sideB W
  · go_enter Tryd.func43, Tryd.ntmps43
    go_wp2_with (go_at_call 59; refine (isSide_any _ _).mono ?_; rintro e w' ⟨rfl, rfl⟩)
    go_ret
    exact ⟨ret_bool (Pm.goodB_w hw).symm, rfl⟩
  · cases hh : Pm.sideB H
    · go_enter Tryd.func43, Tryd.ntmps43
      go_wp2_with (go_at_call 59; refine (isSide_any _ _).mono ?_; rintro e w' ⟨rfl, rfl⟩)
      go_ret
      exact ⟨ret_bool (Pm.goodB_h hh).symm, rfl⟩
    · have bw := Pm.sideB_bounds hw
      have bh := Pm.sideB_bounds hh
      have bm := Pm.area_le bw.1 bw.2 bh.1 bh.2
      by_cases hl : (s.size : Int) = W * H
      · have hb : ((s.size : Int) != W * H) = false := by simp [hl]
        have hsz : (s.size : Int) ≤ 1024 := by omega
        have HL : Hid ((s.size : Int) = W * H) := hl
        clear hl
        go_enter Tryd.func43, Tryd.ntmps43
        go_wp2_with (go_at_call 59; refine (isSide_any _ _).mono ?_; rintro e w' ⟨rfl, rfl⟩)
        go_loop [3] (fun i => ∃ k : Nat, k ≤ s.size ∧ i = .int .i64 k ∧ Hid ((s.data.toList.take k).all Pm.okPix = true)) (fun i => s.size - (intOf i).toNat)
        case atStart => exact ⟨0, Nat.zero_le _, rfl, rfl⟩
        case round =>
          obtain ⟨k, hk, rfl, hall⟩ := hrel
          by_cases hlt : k < s.size
          · by_cases h0 : (s[k].toNat : Int) = 48
            · go_wp2
              go_round
              case rel => exact ⟨k + 1, by omega, by go_num, Pm.all_step s k hlt hall (.inl h0)⟩
              case measure => simp [intOf]; omega
            · by_cases h1 : (s[k].toNat : Int) = 49
              · go_wp2
                go_round
                case rel => exact ⟨k + 1, by omega, by go_num, Pm.all_step s k hlt hall (.inr h1)⟩
                case measure => simp [intOf]; omega
              · have b0 : ((s[k].toNat : Int) != 48) = true := bne_iff_ne.2 h0
                have b1 : ((s[k].toNat : Int) != 49) = true := bne_iff_ne.2 h1
                go_wp2
                go_ret
                exact ⟨ret_bool (Pm.goodB_bad s k hlt h0 h1).symm, rfl⟩
          · go_wp2
            go_ret
            exact ⟨ret_bool (Pm.goodB_yes hw hh HL.out (by have := hall.out; rwa [List.take_of_length_le (by simp; omega)] at this)).symm, rfl⟩
      · have hb : ((s.size : Int) != W * H) = true := by simp [hl]
        go_enter Tryd.func43, Tryd.ntmps43
        go_wp2_with (go_at_call 59; refine (isSide_any _ _).mono ?_; rintro e w' ⟨rfl, rfl⟩)
        go_ret
        exact ⟨ret_bool (Pm.goodB_len hl).symm, rfl⟩

set_option maxRecDepth 4000 in
set_option maxHeartbeats 1000000 in
theorem good_any (W H : Int) (s : ByteArray) (w : World) :
    Calls Tryd.prog 23 #[.agg #[.int .i64 W, .int .i64 H, .string s]] w fun e w' => e = .returned (.bool (Pm.goodB W H s.data.toList)) ∧ w' = w.alloc (.cells #[.int .i64 W, .int .i64 H, .string s] 23) := by
  by_cases w1 : W < 1
  · go_enter Tryd.func23, Tryd.ntmps23
    go_wp2
    go_ret
    exact ⟨ret_bool (Pm.goodB_w (Pm.sideB_low (by omega))).symm, rfl⟩
  by_cases h1 : H < 1
  · go_enter Tryd.func23, Tryd.ntmps23
    go_wp2
    go_ret
    exact ⟨ret_bool (Pm.goodB_h (Pm.sideB_low (by omega))).symm, rfl⟩
  by_cases w2 : 32 < W
  · go_enter Tryd.func23, Tryd.ntmps23
    go_wp2
    go_ret
    exact ⟨ret_bool (Pm.goodB_w (Pm.sideB_high (by omega))).symm, rfl⟩
  by_cases h2 : 32 < H
  · go_enter Tryd.func23, Tryd.ntmps23
    go_wp2
    go_ret
    exact ⟨ret_bool (Pm.goodB_h (Pm.sideB_high (by omega))).symm, rfl⟩
  have bm := Pm.area_le (w := W) (h := H) (by omega) (by omega) (by omega) (by omega)
  by_cases hl : (s.size : Int) = W * H
  · have hb : ((s.size : Int) != W * H) = false := by simp [hl]
    have hsz : (s.size : Int) ≤ 1024 := by omega
    have HL : Hid ((s.size : Int) = W * H) := hl
    clear hl
    go_enter Tryd.func23, Tryd.ntmps23
    go_wp2
    go_loop [3] (fun i => ∃ k : Nat, k ≤ s.size ∧ i = .int .i64 k ∧ Hid ((s.data.toList.take k).all Pm.okPix = true)) (fun i => s.size - (intOf i).toNat)
    case atStart => exact ⟨0, Nat.zero_le _, rfl, rfl⟩
    case round =>
      obtain ⟨k, hk, rfl, hall⟩ := hrel
      by_cases hlt : k < s.size
      · by_cases q1 : (s[k].toNat : Int) = 49
        · go_wp2
          go_round
          case rel => exact ⟨k + 1, by omega, by go_num, Pm.all_step s k hlt hall (.inr q1)⟩
          case measure => simp [intOf]; omega
        · by_cases q0 : (s[k].toNat : Int) = 48
          · go_wp2
            go_round
            case rel => exact ⟨k + 1, by omega, by go_num, Pm.all_step s k hlt hall (.inl q0)⟩
            case measure => simp [intOf]; omega
          · have b0 : ((s[k].toNat : Int) != 48) = true := bne_iff_ne.2 q0
            have b1 : ((s[k].toNat : Int) != 49) = true := bne_iff_ne.2 q1
            go_wp2
            go_ret
            exact ⟨ret_bool (Pm.goodB_bad s k hlt q0 q1).symm, rfl⟩
      · go_wp2
        go_ret
        exact ⟨ret_bool (Pm.goodB_yes (Pm.sideB_yes (by omega) (by omega)) (Pm.sideB_yes (by omega) (by omega)) HL.out (by have := hall.out; rwa [List.take_of_length_le (by simp; omega)] at this)).symm, rfl⟩
  · have hb : ((s.size : Int) != W * H) = true := by simp [hl]
    go_enter Tryd.func23, Tryd.ntmps23
    go_wp2
    go_ret
    exact ⟨ret_bool (Pm.goodB_len hl).symm, rfl⟩
end Go.Proofs.YtljfiefobnncaaaDoor
