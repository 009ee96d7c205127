/- outlineref.around. -/
import Derived.Test.YtljfiefobnncaabGreatDoorK08
import Derived.Test.YtljfiefobnncaabGreatDoorK09
namespace Go.Proofs.YtljfiefobnncaabGreatDoor
open Go.RowKit

def sdsV (l : List Qm.Sd) : List Value := l.flatMap sdV
theorem sdsV_len (l : List Qm.Sd) : (sdsV l).length = l.length * 4 := by
  induction l with
  | nil => rfl
  | cons p l ih => simp only [sdsV, List.flatMap_cons, List.length_append] at *; rw [ih]; simp [sdV]; omega
theorem infoSide : (Tryz.prog.info? 85).map (fun i => (i.zero, i.size, i.bytes)) = some (some (.agg #[.int .i64 0, .int .i64 0, .int .i64 0, .int .i64 0]), 4, 32) := by kernel_rfl
theorem four_at (w : World) (g : Nat) (a b c d : Value) (t : TypeId) (hg : g = w.heap.size) : ∀ j u, [a, b, c, d][j]? = some u → (w.alloc (.cells #[a, b, c, d] t)).cell? ((⟨g, 0, none⟩ : Addr).add j) = some u := by
  subst hg
  intro j u hj
  rw [add_zero_at, World.cell?_alloc_new]
  simpa using hj

set_option maxRecDepth 4000 in
set_option maxHeartbeats 4000000 in
theorem around_any (W H : Nat) (s : ByteArray) (x y : Int) (hx : 0 ≤ x ∧ x ≤ 32) (hy : 0 ≤ y ∧ y ≤ 32) (w : World) (hw2 : W ≤ 32) (hh2 : H ≤ 32) (hl : s.size = W * H) :
    Calls Tryz.prog 71 #[.agg #[.int .i64 W, .int .i64 H, .string s], .int .i64 x, .int .i64 y] w fun e w' => ∃ v, e = .returned v ∧ w'.ownsRow w.heap.size 85 4 v (Qm.arL (Pm.blackB W H s.data.toList) x y).length (sdsV (Qm.arL (Pm.blackB W H s.data.toList) x y)) ∧ Below w.heap.size w w' := by
  obtain ⟨i0, hi, hz0, hz1, hz2⟩ := info_parts infoSide
  have HL := hid hl
  clear hl
  go_enter Tryz.func71, Tryz.ntmps71
  cases bw : Pm.blackB W H s.data.toList (x - 1) (y)
  · cases bs : Pm.blackB W H s.data.toList (x) (y + 1)
    · cases be : Pm.blackB W H s.data.toList (x + 1) (y)
      · cases bn : Pm.blackB W H s.data.toList (x) (y - 1)
        · go_wp2_with (first | (go_at_call 42; refine (black_any W H s _ _ _ hw2 hh2 HL.out).mono ?_; rintro e w' ⟨rfl, rfl⟩; first | rw [bw] | rw [bs] | rw [be] | rw [bn]) | (go_at_call 97; refine (pt_any _ _ _).mono ?_; rintro e w' ⟨rfl, rfl⟩) | (at_builtin; refine wpList_append_own _ rfl _ _ 80 rfl w.heap.size 85 i0 (.agg #[.int .i64 0, .int .i64 0, .int .i64 0, .int .i64 0]) 4 32 Tryz.underlying80 hi hz0 hz1 hz2 rfl (by decide) _ _ _ rfl (World.ownsRow_nil _ _ _ _) ⟨_, 0, none⟩ 1 1 [.int .i64 (x), .int .i64 (y), .int .i64 (x), .int .i64 (y + 1)] rfl rfl ?c1 ?c2 (by unfold maxLen; omega) (by omega) (by simp; omega) ?_))
          case c1 => exact four_at _ _ _ _ _ _ _ (by simp)
          case c2 => intro u hu; simp at hu; rcases hu with rfl | rfl | rfl | rfl <;> rfl
          intro v0 w0 own0 grow0 _
          have B0 := hid (show Below w.heap.size w w0 from Below.grown (by go_grown) grow0 (by simp; omega) (fun q hq => by simp [Value.ownBlock] at hq))
          have O0 := hid own0
          clear grow0
          go_wp2_with (first | (go_at_call 42; refine (black_any W H s _ _ _ hw2 hh2 HL.out).mono ?_; rintro e w' ⟨rfl, rfl⟩; first | rw [bw] | rw [bs] | rw [be] | rw [bn]) | (go_at_call 97; refine (pt_any _ _ _).mono ?_; rintro e w' ⟨rfl, rfl⟩) | (at_builtin; refine wpList_append_own _ rfl _ _ 80 rfl w.heap.size 85 i0 (.agg #[.int .i64 0, .int .i64 0, .int .i64 0, .int .i64 0]) 4 32 Tryz.underlying80 hi hz0 hz1 hz2 rfl (by decide) _ _ _ rfl (((own0.alloc _).alloc _).alloc _) ⟨_, 0, none⟩ 1 1 [.int .i64 (x), .int .i64 (y + 1), .int .i64 (x + 1), .int .i64 (y + 1)] rfl rfl ?c1 ?c2 (by unfold maxLen; omega) (by omega) (by have := B0.out.size; simp; omega) ?_))
          case c1 => exact four_at _ _ _ _ _ _ _ (by simp)
          case c2 => intro u hu; simp at hu; rcases hu with rfl | rfl | rfl | rfl <;> rfl
          intro v1 w1 own1 grow1 _
          have B1 := hid (show Below w.heap.size w w1 from Below.grown (((B0.out.alloc B0.out.size _).alloc (by have := B0.out.size; simp; omega) _).alloc (by have := B0.out.size; simp; omega) _) grow1 (by have := B0.out.size; simp; omega) (fun q hq => (own0.lt q hq).1))
          have O1 := hid own1
          clear grow1
          go_wp2_with (first | (go_at_call 42; refine (black_any W H s _ _ _ hw2 hh2 HL.out).mono ?_; rintro e w' ⟨rfl, rfl⟩; first | rw [bw] | rw [bs] | rw [be] | rw [bn]) | (go_at_call 97; refine (pt_any _ _ _).mono ?_; rintro e w' ⟨rfl, rfl⟩) | (at_builtin; refine wpList_append_own _ rfl _ _ 80 rfl w.heap.size 85 i0 (.agg #[.int .i64 0, .int .i64 0, .int .i64 0, .int .i64 0]) 4 32 Tryz.underlying80 hi hz0 hz1 hz2 rfl (by decide) _ _ _ rfl (((own1.alloc _).alloc _).alloc _) ⟨_, 0, none⟩ 1 1 [.int .i64 (x + 1), .int .i64 (y + 1), .int .i64 (x + 1), .int .i64 (y)] rfl rfl ?c1 ?c2 (by unfold maxLen; omega) (by omega) (by have := B1.out.size; simp; omega) ?_))
          case c1 => exact four_at _ _ _ _ _ _ _ (by simp)
          case c2 => intro u hu; simp at hu; rcases hu with rfl | rfl | rfl | rfl <;> rfl
          intro v2 w2 own2 grow2 _
          have B2 := hid (show Below w.heap.size w w2 from Below.grown (((B1.out.alloc B1.out.size _).alloc (by have := B1.out.size; simp; omega) _).alloc (by have := B1.out.size; simp; omega) _) grow2 (by have := B1.out.size; simp; omega) (fun q hq => (own1.lt q hq).1))
          have O2 := hid own2
          clear grow2
          go_wp2_with (first | (go_at_call 42; refine (black_any W H s _ _ _ hw2 hh2 HL.out).mono ?_; rintro e w' ⟨rfl, rfl⟩; first | rw [bw] | rw [bs] | rw [be] | rw [bn]) | (go_at_call 97; refine (pt_any _ _ _).mono ?_; rintro e w' ⟨rfl, rfl⟩) | (at_builtin; refine wpList_append_own _ rfl _ _ 80 rfl w.heap.size 85 i0 (.agg #[.int .i64 0, .int .i64 0, .int .i64 0, .int .i64 0]) 4 32 Tryz.underlying80 hi hz0 hz1 hz2 rfl (by decide) _ _ _ rfl (((own2.alloc _).alloc _).alloc _) ⟨_, 0, none⟩ 1 1 [.int .i64 (x + 1), .int .i64 (y), .int .i64 (x), .int .i64 (y)] rfl rfl ?c1 ?c2 (by unfold maxLen; omega) (by omega) (by have := B2.out.size; simp; omega) ?_))
          case c1 => exact four_at _ _ _ _ _ _ _ (by simp)
          case c2 => intro u hu; simp at hu; rcases hu with rfl | rfl | rfl | rfl <;> rfl
          intro v3 w3 own3 grow3 _
          have B3 := hid (show Below w.heap.size w w3 from Below.grown (((B2.out.alloc B2.out.size _).alloc (by have := B2.out.size; simp; omega) _).alloc (by have := B2.out.size; simp; omega) _) grow3 (by have := B2.out.size; simp; omega) (fun q hq => (own2.lt q hq).1))
          have O3 := hid own3
          clear grow3
          go_wp2
          go_ret
          exact ⟨_, rfl, by simpa [Qm.arL, bw, bs, be, bn, sdsV, sdV, Qm.en] using O3.out, B3.out⟩
        · go_wp2_with (first | (go_at_call 42; refine (black_any W H s _ _ _ hw2 hh2 HL.out).mono ?_; rintro e w' ⟨rfl, rfl⟩; first | rw [bw] | rw [bs] | rw [be] | rw [bn]) | (go_at_call 97; refine (pt_any _ _ _).mono ?_; rintro e w' ⟨rfl, rfl⟩) | (at_builtin; refine wpList_append_own _ rfl _ _ 80 rfl w.heap.size 85 i0 (.agg #[.int .i64 0, .int .i64 0, .int .i64 0, .int .i64 0]) 4 32 Tryz.underlying80 hi hz0 hz1 hz2 rfl (by decide) _ _ _ rfl (World.ownsRow_nil _ _ _ _) ⟨_, 0, none⟩ 1 1 [.int .i64 (x), .int .i64 (y), .int .i64 (x), .int .i64 (y + 1)] rfl rfl ?c1 ?c2 (by unfold maxLen; omega) (by omega) (by simp; omega) ?_))
          case c1 => exact four_at _ _ _ _ _ _ _ (by simp)
          case c2 => intro u hu; simp at hu; rcases hu with rfl | rfl | rfl | rfl <;> rfl
          intro v0 w0 own0 grow0 _
          have B0 := hid (show Below w.heap.size w w0 from Below.grown (by go_grown) grow0 (by simp; omega) (fun q hq => by simp [Value.ownBlock] at hq))
          have O0 := hid own0
          clear grow0
          go_wp2_with (first | (go_at_call 42; refine (black_any W H s _ _ _ hw2 hh2 HL.out).mono ?_; rintro e w' ⟨rfl, rfl⟩; first | rw [bw] | rw [bs] | rw [be] | rw [bn]) | (go_at_call 97; refine (pt_any _ _ _).mono ?_; rintro e w' ⟨rfl, rfl⟩) | (at_builtin; refine wpList_append_own _ rfl _ _ 80 rfl w.heap.size 85 i0 (.agg #[.int .i64 0, .int .i64 0, .int .i64 0, .int .i64 0]) 4 32 Tryz.underlying80 hi hz0 hz1 hz2 rfl (by decide) _ _ _ rfl (((own0.alloc _).alloc _).alloc _) ⟨_, 0, none⟩ 1 1 [.int .i64 (x), .int .i64 (y + 1), .int .i64 (x + 1), .int .i64 (y + 1)] rfl rfl ?c1 ?c2 (by unfold maxLen; omega) (by omega) (by have := B0.out.size; simp; omega) ?_))
          case c1 => exact four_at _ _ _ _ _ _ _ (by simp)
          case c2 => intro u hu; simp at hu; rcases hu with rfl | rfl | rfl | rfl <;> rfl
          intro v1 w1 own1 grow1 _
          have B1 := hid (show Below w.heap.size w w1 from Below.grown (((B0.out.alloc B0.out.size _).alloc (by have := B0.out.size; simp; omega) _).alloc (by have := B0.out.size; simp; omega) _) grow1 (by have := B0.out.size; simp; omega) (fun q hq => (own0.lt q hq).1))
          have O1 := hid own1
          clear grow1
          go_wp2_with (first | (go_at_call 42; refine (black_any W H s _ _ _ hw2 hh2 HL.out).mono ?_; rintro e w' ⟨rfl, rfl⟩; first | rw [bw] | rw [bs] | rw [be] | rw [bn]) | (go_at_call 97; refine (pt_any _ _ _).mono ?_; rintro e w' ⟨rfl, rfl⟩) | (at_builtin; refine wpList_append_own _ rfl _ _ 80 rfl w.heap.size 85 i0 (.agg #[.int .i64 0, .int .i64 0, .int .i64 0, .int .i64 0]) 4 32 Tryz.underlying80 hi hz0 hz1 hz2 rfl (by decide) _ _ _ rfl (((own1.alloc _).alloc _).alloc _) ⟨_, 0, none⟩ 1 1 [.int .i64 (x + 1), .int .i64 (y + 1), .int .i64 (x + 1), .int .i64 (y)] rfl rfl ?c1 ?c2 (by unfold maxLen; omega) (by omega) (by have := B1.out.size; simp; omega) ?_))
          case c1 => exact four_at _ _ _ _ _ _ _ (by simp)
          case c2 => intro u hu; simp at hu; rcases hu with rfl | rfl | rfl | rfl <;> rfl
          intro v2 w2 own2 grow2 _
          have B2 := hid (show Below w.heap.size w w2 from Below.grown (((B1.out.alloc B1.out.size _).alloc (by have := B1.out.size; simp; omega) _).alloc (by have := B1.out.size; simp; omega) _) grow2 (by have := B1.out.size; simp; omega) (fun q hq => (own1.lt q hq).1))
          have O2 := hid own2
          clear grow2
          go_wp2
          go_ret
          exact ⟨_, rfl, by simpa [Qm.arL, bw, bs, be, bn, sdsV, sdV, Qm.en] using O2.out, B2.out⟩
      · cases bn : Pm.blackB W H s.data.toList (x) (y - 1)
        · go_wp2_with (first | (go_at_call 42; refine (black_any W H s _ _ _ hw2 hh2 HL.out).mono ?_; rintro e w' ⟨rfl, rfl⟩; first | rw [bw] | rw [bs] | rw [be] | rw [bn]) | (go_at_call 97; refine (pt_any _ _ _).mono ?_; rintro e w' ⟨rfl, rfl⟩) | (at_builtin; refine wpList_append_own _ rfl _ _ 80 rfl w.heap.size 85 i0 (.agg #[.int .i64 0, .int .i64 0, .int .i64 0, .int .i64 0]) 4 32 Tryz.underlying80 hi hz0 hz1 hz2 rfl (by decide) _ _ _ rfl (World.ownsRow_nil _ _ _ _) ⟨_, 0, none⟩ 1 1 [.int .i64 (x), .int .i64 (y), .int .i64 (x), .int .i64 (y + 1)] rfl rfl ?c1 ?c2 (by unfold maxLen; omega) (by omega) (by simp; omega) ?_))
          case c1 => exact four_at _ _ _ _ _ _ _ (by simp)
          case c2 => intro u hu; simp at hu; rcases hu with rfl | rfl | rfl | rfl <;> rfl
          intro v0 w0 own0 grow0 _
          have B0 := hid (show Below w.heap.size w w0 from Below.grown (by go_grown) grow0 (by simp; omega) (fun q hq => by simp [Value.ownBlock] at hq))
          have O0 := hid own0
          clear grow0
          go_wp2_with (first | (go_at_call 42; refine (black_any W H s _ _ _ hw2 hh2 HL.out).mono ?_; rintro e w' ⟨rfl, rfl⟩; first | rw [bw] | rw [bs] | rw [be] | rw [bn]) | (go_at_call 97; refine (pt_any _ _ _).mono ?_; rintro e w' ⟨rfl, rfl⟩) | (at_builtin; refine wpList_append_own _ rfl _ _ 80 rfl w.heap.size 85 i0 (.agg #[.int .i64 0, .int .i64 0, .int .i64 0, .int .i64 0]) 4 32 Tryz.underlying80 hi hz0 hz1 hz2 rfl (by decide) _ _ _ rfl (((own0.alloc _).alloc _).alloc _) ⟨_, 0, none⟩ 1 1 [.int .i64 (x), .int .i64 (y + 1), .int .i64 (x + 1), .int .i64 (y + 1)] rfl rfl ?c1 ?c2 (by unfold maxLen; omega) (by omega) (by have := B0.out.size; simp; omega) ?_))
          case c1 => exact four_at _ _ _ _ _ _ _ (by simp)
          case c2 => intro u hu; simp at hu; rcases hu with rfl | rfl | rfl | rfl <;> rfl
          intro v1 w1 own1 grow1 _
          have B1 := hid (show Below w.heap.size w w1 from Below.grown (((B0.out.alloc B0.out.size _).alloc (by have := B0.out.size; simp; omega) _).alloc (by have := B0.out.size; simp; omega) _) grow1 (by have := B0.out.size; simp; omega) (fun q hq => (own0.lt q hq).1))
          have O1 := hid own1
          clear grow1
          go_wp2_with (first | (go_at_call 42; refine (black_any W H s _ _ _ hw2 hh2 HL.out).mono ?_; rintro e w' ⟨rfl, rfl⟩; first | rw [bw] | rw [bs] | rw [be] | rw [bn]) | (go_at_call 97; refine (pt_any _ _ _).mono ?_; rintro e w' ⟨rfl, rfl⟩) | (at_builtin; refine wpList_append_own _ rfl _ _ 80 rfl w.heap.size 85 i0 (.agg #[.int .i64 0, .int .i64 0, .int .i64 0, .int .i64 0]) 4 32 Tryz.underlying80 hi hz0 hz1 hz2 rfl (by decide) _ _ _ rfl (((own1.alloc _).alloc _).alloc _) ⟨_, 0, none⟩ 1 1 [.int .i64 (x + 1), .int .i64 (y), .int .i64 (x), .int .i64 (y)] rfl rfl ?c1 ?c2 (by unfold maxLen; omega) (by omega) (by have := B1.out.size; simp; omega) ?_))
          case c1 => exact four_at _ _ _ _ _ _ _ (by simp)
          case c2 => intro u hu; simp at hu; rcases hu with rfl | rfl | rfl | rfl <;> rfl
          intro v2 w2 own2 grow2 _
          have B2 := hid (show Below w.heap.size w w2 from Below.grown (((B1.out.alloc B1.out.size _).alloc (by have := B1.out.size; simp; omega) _).alloc (by have := B1.out.size; simp; omega) _) grow2 (by have := B1.out.size; simp; omega) (fun q hq => (own1.lt q hq).1))
          have O2 := hid own2
          clear grow2
          go_wp2
          go_ret
          exact ⟨_, rfl, by simpa [Qm.arL, bw, bs, be, bn, sdsV, sdV, Qm.en] using O2.out, B2.out⟩
        · go_wp2_with (first | (go_at_call 42; refine (black_any W H s _ _ _ hw2 hh2 HL.out).mono ?_; rintro e w' ⟨rfl, rfl⟩; first | rw [bw] | rw [bs] | rw [be] | rw [bn]) | (go_at_call 97; refine (pt_any _ _ _).mono ?_; rintro e w' ⟨rfl, rfl⟩) | (at_builtin; refine wpList_append_own _ rfl _ _ 80 rfl w.heap.size 85 i0 (.agg #[.int .i64 0, .int .i64 0, .int .i64 0, .int .i64 0]) 4 32 Tryz.underlying80 hi hz0 hz1 hz2 rfl (by decide) _ _ _ rfl (World.ownsRow_nil _ _ _ _) ⟨_, 0, none⟩ 1 1 [.int .i64 (x), .int .i64 (y), .int .i64 (x), .int .i64 (y + 1)] rfl rfl ?c1 ?c2 (by unfold maxLen; omega) (by omega) (by simp; omega) ?_))
          case c1 => exact four_at _ _ _ _ _ _ _ (by simp)
          case c2 => intro u hu; simp at hu; rcases hu with rfl | rfl | rfl | rfl <;> rfl
          intro v0 w0 own0 grow0 _
          have B0 := hid (show Below w.heap.size w w0 from Below.grown (by go_grown) grow0 (by simp; omega) (fun q hq => by simp [Value.ownBlock] at hq))
          have O0 := hid own0
          clear grow0
          go_wp2_with (first | (go_at_call 42; refine (black_any W H s _ _ _ hw2 hh2 HL.out).mono ?_; rintro e w' ⟨rfl, rfl⟩; first | rw [bw] | rw [bs] | rw [be] | rw [bn]) | (go_at_call 97; refine (pt_any _ _ _).mono ?_; rintro e w' ⟨rfl, rfl⟩) | (at_builtin; refine wpList_append_own _ rfl _ _ 80 rfl w.heap.size 85 i0 (.agg #[.int .i64 0, .int .i64 0, .int .i64 0, .int .i64 0]) 4 32 Tryz.underlying80 hi hz0 hz1 hz2 rfl (by decide) _ _ _ rfl (((own0.alloc _).alloc _).alloc _) ⟨_, 0, none⟩ 1 1 [.int .i64 (x), .int .i64 (y + 1), .int .i64 (x + 1), .int .i64 (y + 1)] rfl rfl ?c1 ?c2 (by unfold maxLen; omega) (by omega) (by have := B0.out.size; simp; omega) ?_))
          case c1 => exact four_at _ _ _ _ _ _ _ (by simp)
          case c2 => intro u hu; simp at hu; rcases hu with rfl | rfl | rfl | rfl <;> rfl
          intro v1 w1 own1 grow1 _
          have B1 := hid (show Below w.heap.size w w1 from Below.grown (((B0.out.alloc B0.out.size _).alloc (by have := B0.out.size; simp; omega) _).alloc (by have := B0.out.size; simp; omega) _) grow1 (by have := B0.out.size; simp; omega) (fun q hq => (own0.lt q hq).1))
          have O1 := hid own1
          clear grow1
          go_wp2
          go_ret
          exact ⟨_, rfl, by simpa [Qm.arL, bw, bs, be, bn, sdsV, sdV, Qm.en] using O1.out, B1.out⟩
    · cases be : Pm.blackB W H s.data.toList (x + 1) (y)
      · cases bn : Pm.blackB W H s.data.toList (x) (y - 1)
        · go_wp2_with (first | (go_at_call 42; refine (black_any W H s _ _ _ hw2 hh2 HL.out).mono ?_; rintro e w' ⟨rfl, rfl⟩; first | rw [bw] | rw [bs] | rw [be] | rw [bn]) | (go_at_call 97; refine (pt_any _ _ _).mono ?_; rintro e w' ⟨rfl, rfl⟩) | (at_builtin; refine wpList_append_own _ rfl _ _ 80 rfl w.heap.size 85 i0 (.agg #[.int .i64 0, .int .i64 0, .int .i64 0, .int .i64 0]) 4 32 Tryz.underlying80 hi hz0 hz1 hz2 rfl (by decide) _ _ _ rfl (World.ownsRow_nil _ _ _ _) ⟨_, 0, none⟩ 1 1 [.int .i64 (x), .int .i64 (y), .int .i64 (x), .int .i64 (y + 1)] rfl rfl ?c1 ?c2 (by unfold maxLen; omega) (by omega) (by simp; omega) ?_))
          case c1 => exact four_at _ _ _ _ _ _ _ (by simp)
          case c2 => intro u hu; simp at hu; rcases hu with rfl | rfl | rfl | rfl <;> rfl
          intro v0 w0 own0 grow0 _
          have B0 := hid (show Below w.heap.size w w0 from Below.grown (by go_grown) grow0 (by simp; omega) (fun q hq => by simp [Value.ownBlock] at hq))
          have O0 := hid own0
          clear grow0
          go_wp2_with (first | (go_at_call 42; refine (black_any W H s _ _ _ hw2 hh2 HL.out).mono ?_; rintro e w' ⟨rfl, rfl⟩; first | rw [bw] | rw [bs] | rw [be] | rw [bn]) | (go_at_call 97; refine (pt_any _ _ _).mono ?_; rintro e w' ⟨rfl, rfl⟩) | (at_builtin; refine wpList_append_own _ rfl _ _ 80 rfl w.heap.size 85 i0 (.agg #[.int .i64 0, .int .i64 0, .int .i64 0, .int .i64 0]) 4 32 Tryz.underlying80 hi hz0 hz1 hz2 rfl (by decide) _ _ _ rfl (((own0.alloc _).alloc _).alloc _) ⟨_, 0, none⟩ 1 1 [.int .i64 (x + 1), .int .i64 (y + 1), .int .i64 (x + 1), .int .i64 (y)] rfl rfl ?c1 ?c2 (by unfold maxLen; omega) (by omega) (by have := B0.out.size; simp; omega) ?_))
          case c1 => exact four_at _ _ _ _ _ _ _ (by simp)
          case c2 => intro u hu; simp at hu; rcases hu with rfl | rfl | rfl | rfl <;> rfl
          intro v1 w1 own1 grow1 _
          have B1 := hid (show Below w.heap.size w w1 from Below.grown (((B0.out.alloc B0.out.size _).alloc (by have := B0.out.size; simp; omega) _).alloc (by have := B0.out.size; simp; omega) _) grow1 (by have := B0.out.size; simp; omega) (fun q hq => (own0.lt q hq).1))
          have O1 := hid own1
          clear grow1
          go_wp2_with (first | (go_at_call 42; refine (black_any W H s _ _ _ hw2 hh2 HL.out).mono ?_; rintro e w' ⟨rfl, rfl⟩; first | rw [bw] | rw [bs] | rw [be] | rw [bn]) | (go_at_call 97; refine (pt_any _ _ _).mono ?_; rintro e w' ⟨rfl, rfl⟩) | (at_builtin; refine wpList_append_own _ rfl _ _ 80 rfl w.heap.size 85 i0 (.agg #[.int .i64 0, .int .i64 0, .int .i64 0, .int .i64 0]) 4 32 Tryz.underlying80 hi hz0 hz1 hz2 rfl (by decide) _ _ _ rfl (((own1.alloc _).alloc _).alloc _) ⟨_, 0, none⟩ 1 1 [.int .i64 (x + 1), .int .i64 (y), .int .i64 (x), .int .i64 (y)] rfl rfl ?c1 ?c2 (by unfold maxLen; omega) (by omega) (by have := B1.out.size; simp; omega) ?_))
          case c1 => exact four_at _ _ _ _ _ _ _ (by simp)
          case c2 => intro u hu; simp at hu; rcases hu with rfl | rfl | rfl | rfl <;> rfl
          intro v2 w2 own2 grow2 _
          have B2 := hid (show Below w.heap.size w w2 from Below.grown (((B1.out.alloc B1.out.size _).alloc (by have := B1.out.size; simp; omega) _).alloc (by have := B1.out.size; simp; omega) _) grow2 (by have := B1.out.size; simp; omega) (fun q hq => (own1.lt q hq).1))
          have O2 := hid own2
          clear grow2
          go_wp2
          go_ret
          exact ⟨_, rfl, by simpa [Qm.arL, bw, bs, be, bn, sdsV, sdV, Qm.en] using O2.out, B2.out⟩
        · go_wp2_with (first | (go_at_call 42; refine (black_any W H s _ _ _ hw2 hh2 HL.out).mono ?_; rintro e w' ⟨rfl, rfl⟩; first | rw [bw] | rw [bs] | rw [be] | rw [bn]) | (go_at_call 97; refine (pt_any _ _ _).mono ?_; rintro e w' ⟨rfl, rfl⟩) | (at_builtin; refine wpList_append_own _ rfl _ _ 80 rfl w.heap.size 85 i0 (.agg #[.int .i64 0, .int .i64 0, .int .i64 0, .int .i64 0]) 4 32 Tryz.underlying80 hi hz0 hz1 hz2 rfl (by decide) _ _ _ rfl (World.ownsRow_nil _ _ _ _) ⟨_, 0, none⟩ 1 1 [.int .i64 (x), .int .i64 (y), .int .i64 (x), .int .i64 (y + 1)] rfl rfl ?c1 ?c2 (by unfold maxLen; omega) (by omega) (by simp; omega) ?_))
          case c1 => exact four_at _ _ _ _ _ _ _ (by simp)
          case c2 => intro u hu; simp at hu; rcases hu with rfl | rfl | rfl | rfl <;> rfl
          intro v0 w0 own0 grow0 _
          have B0 := hid (show Below w.heap.size w w0 from Below.grown (by go_grown) grow0 (by simp; omega) (fun q hq => by simp [Value.ownBlock] at hq))
          have O0 := hid own0
          clear grow0
          go_wp2_with (first | (go_at_call 42; refine (black_any W H s _ _ _ hw2 hh2 HL.out).mono ?_; rintro e w' ⟨rfl, rfl⟩; first | rw [bw] | rw [bs] | rw [be] | rw [bn]) | (go_at_call 97; refine (pt_any _ _ _).mono ?_; rintro e w' ⟨rfl, rfl⟩) | (at_builtin; refine wpList_append_own _ rfl _ _ 80 rfl w.heap.size 85 i0 (.agg #[.int .i64 0, .int .i64 0, .int .i64 0, .int .i64 0]) 4 32 Tryz.underlying80 hi hz0 hz1 hz2 rfl (by decide) _ _ _ rfl (((own0.alloc _).alloc _).alloc _) ⟨_, 0, none⟩ 1 1 [.int .i64 (x + 1), .int .i64 (y + 1), .int .i64 (x + 1), .int .i64 (y)] rfl rfl ?c1 ?c2 (by unfold maxLen; omega) (by omega) (by have := B0.out.size; simp; omega) ?_))
          case c1 => exact four_at _ _ _ _ _ _ _ (by simp)
          case c2 => intro u hu; simp at hu; rcases hu with rfl | rfl | rfl | rfl <;> rfl
          intro v1 w1 own1 grow1 _
          have B1 := hid (show Below w.heap.size w w1 from Below.grown (((B0.out.alloc B0.out.size _).alloc (by have := B0.out.size; simp; omega) _).alloc (by have := B0.out.size; simp; omega) _) grow1 (by have := B0.out.size; simp; omega) (fun q hq => (own0.lt q hq).1))
          have O1 := hid own1
          clear grow1
          go_wp2
          go_ret
          exact ⟨_, rfl, by simpa [Qm.arL, bw, bs, be, bn, sdsV, sdV, Qm.en] using O1.out, B1.out⟩
      · cases bn : Pm.blackB W H s.data.toList (x) (y - 1)
        · go_wp2_with (first | (go_at_call 42; refine (black_any W H s _ _ _ hw2 hh2 HL.out).mono ?_; rintro e w' ⟨rfl, rfl⟩; first | rw [bw] | rw [bs] | rw [be] | rw [bn]) | (go_at_call 97; refine (pt_any _ _ _).mono ?_; rintro e w' ⟨rfl, rfl⟩) | (at_builtin; refine wpList_append_own _ rfl _ _ 80 rfl w.heap.size 85 i0 (.agg #[.int .i64 0, .int .i64 0, .int .i64 0, .int .i64 0]) 4 32 Tryz.underlying80 hi hz0 hz1 hz2 rfl (by decide) _ _ _ rfl (World.ownsRow_nil _ _ _ _) ⟨_, 0, none⟩ 1 1 [.int .i64 (x), .int .i64 (y), .int .i64 (x), .int .i64 (y + 1)] rfl rfl ?c1 ?c2 (by unfold maxLen; omega) (by omega) (by simp; omega) ?_))
          case c1 => exact four_at _ _ _ _ _ _ _ (by simp)
          case c2 => intro u hu; simp at hu; rcases hu with rfl | rfl | rfl | rfl <;> rfl
          intro v0 w0 own0 grow0 _
          have B0 := hid (show Below w.heap.size w w0 from Below.grown (by go_grown) grow0 (by simp; omega) (fun q hq => by simp [Value.ownBlock] at hq))
          have O0 := hid own0
          clear grow0
          go_wp2_with (first | (go_at_call 42; refine (black_any W H s _ _ _ hw2 hh2 HL.out).mono ?_; rintro e w' ⟨rfl, rfl⟩; first | rw [bw] | rw [bs] | rw [be] | rw [bn]) | (go_at_call 97; refine (pt_any _ _ _).mono ?_; rintro e w' ⟨rfl, rfl⟩) | (at_builtin; refine wpList_append_own _ rfl _ _ 80 rfl w.heap.size 85 i0 (.agg #[.int .i64 0, .int .i64 0, .int .i64 0, .int .i64 0]) 4 32 Tryz.underlying80 hi hz0 hz1 hz2 rfl (by decide) _ _ _ rfl (((own0.alloc _).alloc _).alloc _) ⟨_, 0, none⟩ 1 1 [.int .i64 (x + 1), .int .i64 (y), .int .i64 (x), .int .i64 (y)] rfl rfl ?c1 ?c2 (by unfold maxLen; omega) (by omega) (by have := B0.out.size; simp; omega) ?_))
          case c1 => exact four_at _ _ _ _ _ _ _ (by simp)
          case c2 => intro u hu; simp at hu; rcases hu with rfl | rfl | rfl | rfl <;> rfl
          intro v1 w1 own1 grow1 _
          have B1 := hid (show Below w.heap.size w w1 from Below.grown (((B0.out.alloc B0.out.size _).alloc (by have := B0.out.size; simp; omega) _).alloc (by have := B0.out.size; simp; omega) _) grow1 (by have := B0.out.size; simp; omega) (fun q hq => (own0.lt q hq).1))
          have O1 := hid own1
          clear grow1
          go_wp2
          go_ret
          exact ⟨_, rfl, by simpa [Qm.arL, bw, bs, be, bn, sdsV, sdV, Qm.en] using O1.out, B1.out⟩
        · go_wp2_with (first | (go_at_call 42; refine (black_any W H s _ _ _ hw2 hh2 HL.out).mono ?_; rintro e w' ⟨rfl, rfl⟩; first | rw [bw] | rw [bs] | rw [be] | rw [bn]) | (go_at_call 97; refine (pt_any _ _ _).mono ?_; rintro e w' ⟨rfl, rfl⟩) | (at_builtin; refine wpList_append_own _ rfl _ _ 80 rfl w.heap.size 85 i0 (.agg #[.int .i64 0, .int .i64 0, .int .i64 0, .int .i64 0]) 4 32 Tryz.underlying80 hi hz0 hz1 hz2 rfl (by decide) _ _ _ rfl (World.ownsRow_nil _ _ _ _) ⟨_, 0, none⟩ 1 1 [.int .i64 (x), .int .i64 (y), .int .i64 (x), .int .i64 (y + 1)] rfl rfl ?c1 ?c2 (by unfold maxLen; omega) (by omega) (by simp; omega) ?_))
          case c1 => exact four_at _ _ _ _ _ _ _ (by simp)
          case c2 => intro u hu; simp at hu; rcases hu with rfl | rfl | rfl | rfl <;> rfl
          intro v0 w0 own0 grow0 _
          have B0 := hid (show Below w.heap.size w w0 from Below.grown (by go_grown) grow0 (by simp; omega) (fun q hq => by simp [Value.ownBlock] at hq))
          have O0 := hid own0
          clear grow0
          go_wp2
          go_ret
          exact ⟨_, rfl, by simpa [Qm.arL, bw, bs, be, bn, sdsV, sdV, Qm.en] using O0.out, B0.out⟩
  · cases bs : Pm.blackB W H s.data.toList (x) (y + 1)
    · cases be : Pm.blackB W H s.data.toList (x + 1) (y)
      · cases bn : Pm.blackB W H s.data.toList (x) (y - 1)
        · go_wp2_with (first | (go_at_call 42; refine (black_any W H s _ _ _ hw2 hh2 HL.out).mono ?_; rintro e w' ⟨rfl, rfl⟩; first | rw [bw] | rw [bs] | rw [be] | rw [bn]) | (go_at_call 97; refine (pt_any _ _ _).mono ?_; rintro e w' ⟨rfl, rfl⟩) | (at_builtin; refine wpList_append_own _ rfl _ _ 80 rfl w.heap.size 85 i0 (.agg #[.int .i64 0, .int .i64 0, .int .i64 0, .int .i64 0]) 4 32 Tryz.underlying80 hi hz0 hz1 hz2 rfl (by decide) _ _ _ rfl (World.ownsRow_nil _ _ _ _) ⟨_, 0, none⟩ 1 1 [.int .i64 (x), .int .i64 (y + 1), .int .i64 (x + 1), .int .i64 (y + 1)] rfl rfl ?c1 ?c2 (by unfold maxLen; omega) (by omega) (by simp; omega) ?_))
          case c1 => exact four_at _ _ _ _ _ _ _ (by simp)
          case c2 => intro u hu; simp at hu; rcases hu with rfl | rfl | rfl | rfl <;> rfl
          intro v0 w0 own0 grow0 _
          have B0 := hid (show Below w.heap.size w w0 from Below.grown (by go_grown) grow0 (by simp; omega) (fun q hq => by simp [Value.ownBlock] at hq))
          have O0 := hid own0
          clear grow0
          go_wp2_with (first | (go_at_call 42; refine (black_any W H s _ _ _ hw2 hh2 HL.out).mono ?_; rintro e w' ⟨rfl, rfl⟩; first | rw [bw] | rw [bs] | rw [be] | rw [bn]) | (go_at_call 97; refine (pt_any _ _ _).mono ?_; rintro e w' ⟨rfl, rfl⟩) | (at_builtin; refine wpList_append_own _ rfl _ _ 80 rfl w.heap.size 85 i0 (.agg #[.int .i64 0, .int .i64 0, .int .i64 0, .int .i64 0]) 4 32 Tryz.underlying80 hi hz0 hz1 hz2 rfl (by decide) _ _ _ rfl (((own0.alloc _).alloc _).alloc _) ⟨_, 0, none⟩ 1 1 [.int .i64 (x + 1), .int .i64 (y + 1), .int .i64 (x + 1), .int .i64 (y)] rfl rfl ?c1 ?c2 (by unfold maxLen; omega) (by omega) (by have := B0.out.size; simp; omega) ?_))
          case c1 => exact four_at _ _ _ _ _ _ _ (by simp)
          case c2 => intro u hu; simp at hu; rcases hu with rfl | rfl | rfl | rfl <;> rfl
          intro v1 w1 own1 grow1 _
          have B1 := hid (show Below w.heap.size w w1 from Below.grown (((B0.out.alloc B0.out.size _).alloc (by have := B0.out.size; simp; omega) _).alloc (by have := B0.out.size; simp; omega) _) grow1 (by have := B0.out.size; simp; omega) (fun q hq => (own0.lt q hq).1))
          have O1 := hid own1
          clear grow1
          go_wp2_with (first | (go_at_call 42; refine (black_any W H s _ _ _ hw2 hh2 HL.out).mono ?_; rintro e w' ⟨rfl, rfl⟩; first | rw [bw] | rw [bs] | rw [be] | rw [bn]) | (go_at_call 97; refine (pt_any _ _ _).mono ?_; rintro e w' ⟨rfl, rfl⟩) | (at_builtin; refine wpList_append_own _ rfl _ _ 80 rfl w.heap.size 85 i0 (.agg #[.int .i64 0, .int .i64 0, .int .i64 0, .int .i64 0]) 4 32 Tryz.underlying80 hi hz0 hz1 hz2 rfl (by decide) _ _ _ rfl (((own1.alloc _).alloc _).alloc _) ⟨_, 0, none⟩ 1 1 [.int .i64 (x + 1), .int .i64 (y), .int .i64 (x), .int .i64 (y)] rfl rfl ?c1 ?c2 (by unfold maxLen; omega) (by omega) (by have := B1.out.size; simp; omega) ?_))
          case c1 => exact four_at _ _ _ _ _ _ _ (by simp)
          case c2 => intro u hu; simp at hu; rcases hu with rfl | rfl | rfl | rfl <;> rfl
          intro v2 w2 own2 grow2 _
          have B2 := hid (show Below w.heap.size w w2 from Below.grown (((B1.out.alloc B1.out.size _).alloc (by have := B1.out.size; simp; omega) _).alloc (by have := B1.out.size; simp; omega) _) grow2 (by have := B1.out.size; simp; omega) (fun q hq => (own1.lt q hq).1))
          have O2 := hid own2
          clear grow2
          go_wp2
          go_ret
          exact ⟨_, rfl, by simpa [Qm.arL, bw, bs, be, bn, sdsV, sdV, Qm.en] using O2.out, B2.out⟩
        · go_wp2_with (first | (go_at_call 42; refine (black_any W H s _ _ _ hw2 hh2 HL.out).mono ?_; rintro e w' ⟨rfl, rfl⟩; first | rw [bw] | rw [bs] | rw [be] | rw [bn]) | (go_at_call 97; refine (pt_any _ _ _).mono ?_; rintro e w' ⟨rfl, rfl⟩) | (at_builtin; refine wpList_append_own _ rfl _ _ 80 rfl w.heap.size 85 i0 (.agg #[.int .i64 0, .int .i64 0, .int .i64 0, .int .i64 0]) 4 32 Tryz.underlying80 hi hz0 hz1 hz2 rfl (by decide) _ _ _ rfl (World.ownsRow_nil _ _ _ _) ⟨_, 0, none⟩ 1 1 [.int .i64 (x), .int .i64 (y + 1), .int .i64 (x + 1), .int .i64 (y + 1)] rfl rfl ?c1 ?c2 (by unfold maxLen; omega) (by omega) (by simp; omega) ?_))
          case c1 => exact four_at _ _ _ _ _ _ _ (by simp)
          case c2 => intro u hu; simp at hu; rcases hu with rfl | rfl | rfl | rfl <;> rfl
          intro v0 w0 own0 grow0 _
          have B0 := hid (show Below w.heap.size w w0 from Below.grown (by go_grown) grow0 (by simp; omega) (fun q hq => by simp [Value.ownBlock] at hq))
          have O0 := hid own0
          clear grow0
          go_wp2_with (first | (go_at_call 42; refine (black_any W H s _ _ _ hw2 hh2 HL.out).mono ?_; rintro e w' ⟨rfl, rfl⟩; first | rw [bw] | rw [bs] | rw [be] | rw [bn]) | (go_at_call 97; refine (pt_any _ _ _).mono ?_; rintro e w' ⟨rfl, rfl⟩) | (at_builtin; refine wpList_append_own _ rfl _ _ 80 rfl w.heap.size 85 i0 (.agg #[.int .i64 0, .int .i64 0, .int .i64 0, .int .i64 0]) 4 32 Tryz.underlying80 hi hz0 hz1 hz2 rfl (by decide) _ _ _ rfl (((own0.alloc _).alloc _).alloc _) ⟨_, 0, none⟩ 1 1 [.int .i64 (x + 1), .int .i64 (y + 1), .int .i64 (x + 1), .int .i64 (y)] rfl rfl ?c1 ?c2 (by unfold maxLen; omega) (by omega) (by have := B0.out.size; simp; omega) ?_))
          case c1 => exact four_at _ _ _ _ _ _ _ (by simp)
          case c2 => intro u hu; simp at hu; rcases hu with rfl | rfl | rfl | rfl <;> rfl
          intro v1 w1 own1 grow1 _
          have B1 := hid (show Below w.heap.size w w1 from Below.grown (((B0.out.alloc B0.out.size _).alloc (by have := B0.out.size; simp; omega) _).alloc (by have := B0.out.size; simp; omega) _) grow1 (by have := B0.out.size; simp; omega) (fun q hq => (own0.lt q hq).1))
          have O1 := hid own1
          clear grow1
          go_wp2
          go_ret
          exact ⟨_, rfl, by simpa [Qm.arL, bw, bs, be, bn, sdsV, sdV, Qm.en] using O1.out, B1.out⟩
      · cases bn : Pm.blackB W H s.data.toList (x) (y - 1)
        · go_wp2_with (first | (go_at_call 42; refine (black_any W H s _ _ _ hw2 hh2 HL.out).mono ?_; rintro e w' ⟨rfl, rfl⟩; first | rw [bw] | rw [bs] | rw [be] | rw [bn]) | (go_at_call 97; refine (pt_any _ _ _).mono ?_; rintro e w' ⟨rfl, rfl⟩) | (at_builtin; refine wpList_append_own _ rfl _ _ 80 rfl w.heap.size 85 i0 (.agg #[.int .i64 0, .int .i64 0, .int .i64 0, .int .i64 0]) 4 32 Tryz.underlying80 hi hz0 hz1 hz2 rfl (by decide) _ _ _ rfl (World.ownsRow_nil _ _ _ _) ⟨_, 0, none⟩ 1 1 [.int .i64 (x), .int .i64 (y + 1), .int .i64 (x + 1), .int .i64 (y + 1)] rfl rfl ?c1 ?c2 (by unfold maxLen; omega) (by omega) (by simp; omega) ?_))
          case c1 => exact four_at _ _ _ _ _ _ _ (by simp)
          case c2 => intro u hu; simp at hu; rcases hu with rfl | rfl | rfl | rfl <;> rfl
          intro v0 w0 own0 grow0 _
          have B0 := hid (show Below w.heap.size w w0 from Below.grown (by go_grown) grow0 (by simp; omega) (fun q hq => by simp [Value.ownBlock] at hq))
          have O0 := hid own0
          clear grow0
          go_wp2_with (first | (go_at_call 42; refine (black_any W H s _ _ _ hw2 hh2 HL.out).mono ?_; rintro e w' ⟨rfl, rfl⟩; first | rw [bw] | rw [bs] | rw [be] | rw [bn]) | (go_at_call 97; refine (pt_any _ _ _).mono ?_; rintro e w' ⟨rfl, rfl⟩) | (at_builtin; refine wpList_append_own _ rfl _ _ 80 rfl w.heap.size 85 i0 (.agg #[.int .i64 0, .int .i64 0, .int .i64 0, .int .i64 0]) 4 32 Tryz.underlying80 hi hz0 hz1 hz2 rfl (by decide) _ _ _ rfl (((own0.alloc _).alloc _).alloc _) ⟨_, 0, none⟩ 1 1 [.int .i64 (x + 1), .int .i64 (y), .int .i64 (x), .int .i64 (y)] rfl rfl ?c1 ?c2 (by unfold maxLen; omega) (by omega) (by have := B0.out.size; simp; omega) ?_))
          case c1 => exact four_at _ _ _ _ _ _ _ (by simp)
          case c2 => intro u hu; simp at hu; rcases hu with rfl | rfl | rfl | rfl <;> rfl
          intro v1 w1 own1 grow1 _
          have B1 := hid (show Below w.heap.size w w1 from Below.grown (((B0.out.alloc B0.out.size _).alloc (by have := B0.out.size; simp; omega) _).alloc (by have := B0.out.size; simp; omega) _) grow1 (by have := B0.out.size; simp; omega) (fun q hq => (own0.lt q hq).1))
          have O1 := hid own1
          clear grow1
          go_wp2
          go_ret
          exact ⟨_, rfl, by simpa [Qm.arL, bw, bs, be, bn, sdsV, sdV, Qm.en] using O1.out, B1.out⟩
        · go_wp2_with (first | (go_at_call 42; refine (black_any W H s _ _ _ hw2 hh2 HL.out).mono ?_; rintro e w' ⟨rfl, rfl⟩; first | rw [bw] | rw [bs] | rw [be] | rw [bn]) | (go_at_call 97; refine (pt_any _ _ _).mono ?_; rintro e w' ⟨rfl, rfl⟩) | (at_builtin; refine wpList_append_own _ rfl _ _ 80 rfl w.heap.size 85 i0 (.agg #[.int .i64 0, .int .i64 0, .int .i64 0, .int .i64 0]) 4 32 Tryz.underlying80 hi hz0 hz1 hz2 rfl (by decide) _ _ _ rfl (World.ownsRow_nil _ _ _ _) ⟨_, 0, none⟩ 1 1 [.int .i64 (x), .int .i64 (y + 1), .int .i64 (x + 1), .int .i64 (y + 1)] rfl rfl ?c1 ?c2 (by unfold maxLen; omega) (by omega) (by simp; omega) ?_))
          case c1 => exact four_at _ _ _ _ _ _ _ (by simp)
          case c2 => intro u hu; simp at hu; rcases hu with rfl | rfl | rfl | rfl <;> rfl
          intro v0 w0 own0 grow0 _
          have B0 := hid (show Below w.heap.size w w0 from Below.grown (by go_grown) grow0 (by simp; omega) (fun q hq => by simp [Value.ownBlock] at hq))
          have O0 := hid own0
          clear grow0
          go_wp2
          go_ret
          exact ⟨_, rfl, by simpa [Qm.arL, bw, bs, be, bn, sdsV, sdV, Qm.en] using O0.out, B0.out⟩
    · cases be : Pm.blackB W H s.data.toList (x + 1) (y)
      · cases bn : Pm.blackB W H s.data.toList (x) (y - 1)
        · go_wp2_with (first | (go_at_call 42; refine (black_any W H s _ _ _ hw2 hh2 HL.out).mono ?_; rintro e w' ⟨rfl, rfl⟩; first | rw [bw] | rw [bs] | rw [be] | rw [bn]) | (go_at_call 97; refine (pt_any _ _ _).mono ?_; rintro e w' ⟨rfl, rfl⟩) | (at_builtin; refine wpList_append_own _ rfl _ _ 80 rfl w.heap.size 85 i0 (.agg #[.int .i64 0, .int .i64 0, .int .i64 0, .int .i64 0]) 4 32 Tryz.underlying80 hi hz0 hz1 hz2 rfl (by decide) _ _ _ rfl (World.ownsRow_nil _ _ _ _) ⟨_, 0, none⟩ 1 1 [.int .i64 (x + 1), .int .i64 (y + 1), .int .i64 (x + 1), .int .i64 (y)] rfl rfl ?c1 ?c2 (by unfold maxLen; omega) (by omega) (by simp; omega) ?_))
          case c1 => exact four_at _ _ _ _ _ _ _ (by simp)
          case c2 => intro u hu; simp at hu; rcases hu with rfl | rfl | rfl | rfl <;> rfl
          intro v0 w0 own0 grow0 _
          have B0 := hid (show Below w.heap.size w w0 from Below.grown (by go_grown) grow0 (by simp; omega) (fun q hq => by simp [Value.ownBlock] at hq))
          have O0 := hid own0
          clear grow0
          go_wp2_with (first | (go_at_call 42; refine (black_any W H s _ _ _ hw2 hh2 HL.out).mono ?_; rintro e w' ⟨rfl, rfl⟩; first | rw [bw] | rw [bs] | rw [be] | rw [bn]) | (go_at_call 97; refine (pt_any _ _ _).mono ?_; rintro e w' ⟨rfl, rfl⟩) | (at_builtin; refine wpList_append_own _ rfl _ _ 80 rfl w.heap.size 85 i0 (.agg #[.int .i64 0, .int .i64 0, .int .i64 0, .int .i64 0]) 4 32 Tryz.underlying80 hi hz0 hz1 hz2 rfl (by decide) _ _ _ rfl (((own0.alloc _).alloc _).alloc _) ⟨_, 0, none⟩ 1 1 [.int .i64 (x + 1), .int .i64 (y), .int .i64 (x), .int .i64 (y)] rfl rfl ?c1 ?c2 (by unfold maxLen; omega) (by omega) (by have := B0.out.size; simp; omega) ?_))
          case c1 => exact four_at _ _ _ _ _ _ _ (by simp)
          case c2 => intro u hu; simp at hu; rcases hu with rfl | rfl | rfl | rfl <;> rfl
          intro v1 w1 own1 grow1 _
          have B1 := hid (show Below w.heap.size w w1 from Below.grown (((B0.out.alloc B0.out.size _).alloc (by have := B0.out.size; simp; omega) _).alloc (by have := B0.out.size; simp; omega) _) grow1 (by have := B0.out.size; simp; omega) (fun q hq => (own0.lt q hq).1))
          have O1 := hid own1
          clear grow1
          go_wp2
          go_ret
          exact ⟨_, rfl, by simpa [Qm.arL, bw, bs, be, bn, sdsV, sdV, Qm.en] using O1.out, B1.out⟩
        · go_wp2_with (first | (go_at_call 42; refine (black_any W H s _ _ _ hw2 hh2 HL.out).mono ?_; rintro e w' ⟨rfl, rfl⟩; first | rw [bw] | rw [bs] | rw [be] | rw [bn]) | (go_at_call 97; refine (pt_any _ _ _).mono ?_; rintro e w' ⟨rfl, rfl⟩) | (at_builtin; refine wpList_append_own _ rfl _ _ 80 rfl w.heap.size 85 i0 (.agg #[.int .i64 0, .int .i64 0, .int .i64 0, .int .i64 0]) 4 32 Tryz.underlying80 hi hz0 hz1 hz2 rfl (by decide) _ _ _ rfl (World.ownsRow_nil _ _ _ _) ⟨_, 0, none⟩ 1 1 [.int .i64 (x + 1), .int .i64 (y + 1), .int .i64 (x + 1), .int .i64 (y)] rfl rfl ?c1 ?c2 (by unfold maxLen; omega) (by omega) (by simp; omega) ?_))
          case c1 => exact four_at _ _ _ _ _ _ _ (by simp)
          case c2 => intro u hu; simp at hu; rcases hu with rfl | rfl | rfl | rfl <;> rfl
          intro v0 w0 own0 grow0 _
          have B0 := hid (show Below w.heap.size w w0 from Below.grown (by go_grown) grow0 (by simp; omega) (fun q hq => by simp [Value.ownBlock] at hq))
          have O0 := hid own0
          clear grow0
          go_wp2
          go_ret
          exact ⟨_, rfl, by simpa [Qm.arL, bw, bs, be, bn, sdsV, sdV, Qm.en] using O0.out, B0.out⟩
      · cases bn : Pm.blackB W H s.data.toList (x) (y - 1)
        · go_wp2_with (first | (go_at_call 42; refine (black_any W H s _ _ _ hw2 hh2 HL.out).mono ?_; rintro e w' ⟨rfl, rfl⟩; first | rw [bw] | rw [bs] | rw [be] | rw [bn]) | (go_at_call 97; refine (pt_any _ _ _).mono ?_; rintro e w' ⟨rfl, rfl⟩) | (at_builtin; refine wpList_append_own _ rfl _ _ 80 rfl w.heap.size 85 i0 (.agg #[.int .i64 0, .int .i64 0, .int .i64 0, .int .i64 0]) 4 32 Tryz.underlying80 hi hz0 hz1 hz2 rfl (by decide) _ _ _ rfl (World.ownsRow_nil _ _ _ _) ⟨_, 0, none⟩ 1 1 [.int .i64 (x + 1), .int .i64 (y), .int .i64 (x), .int .i64 (y)] rfl rfl ?c1 ?c2 (by unfold maxLen; omega) (by omega) (by simp; omega) ?_))
          case c1 => exact four_at _ _ _ _ _ _ _ (by simp)
          case c2 => intro u hu; simp at hu; rcases hu with rfl | rfl | rfl | rfl <;> rfl
          intro v0 w0 own0 grow0 _
          have B0 := hid (show Below w.heap.size w w0 from Below.grown (by go_grown) grow0 (by simp; omega) (fun q hq => by simp [Value.ownBlock] at hq))
          have O0 := hid own0
          clear grow0
          go_wp2
          go_ret
          exact ⟨_, rfl, by simpa [Qm.arL, bw, bs, be, bn, sdsV, sdV, Qm.en] using O0.out, B0.out⟩
        · go_wp2_with (first | (go_at_call 42; refine (black_any W H s _ _ _ hw2 hh2 HL.out).mono ?_; rintro e w' ⟨rfl, rfl⟩; first | rw [bw] | rw [bs] | rw [be] | rw [bn]) | (go_at_call 97; refine (pt_any _ _ _).mono ?_; rintro e w' ⟨rfl, rfl⟩))
          go_ret
          exact ⟨_, rfl, by simpa [Qm.arL, bw, bs, be, bn, sdsV] using World.ownsRow_nil _ _ _ _, by go_grown⟩
end Go.Proofs.YtljfiefobnncaabGreatDoor
