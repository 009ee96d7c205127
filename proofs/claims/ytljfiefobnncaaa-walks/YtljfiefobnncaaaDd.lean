/- outlineref.Sides. -/
import Derived.Test.YtljfiefobnncaaaDc
import Derived.Test.YtljfiefobnncaaaWf
import Derived.Test.YtljfiefobnncaaaCm
import Derived.Deep.Upon
namespace Go.Proofs.Ytljfiefobnncaaa
open Go.RowKit

theorem sdsV_app (a b : List Qm.Sd) : sdsV (a ++ b) = sdsV a ++ sdsV b := by simp [sdsV]

/-- A row that is owned, behind a row that is owned: what the law of append asks of what is appended. -/
theorem own_src {w : World} {b : Nat} {t : TypeId} {z : Nat} {v : Value} {n : Nat} {xs : List Value} (h : w.ownsRow b t z v n xs) (hn : 0 < n) : ∃ g cap, v = .slice (some ⟨g, 0, none⟩) n cap ∧ ∀ j u, xs[j]? = some u → w.cell? ((⟨g, 0, none⟩ : Addr).add j) = some u := by
  rcases h.2 with ⟨_, h0⟩ | ⟨g, cap, cur, rfl, _⟩
  · omega
  · exact ⟨g, cap, rfl, fun j u hu => h.cells (g := g) rfl j u hu⟩

theorem sds_one (l : List Qm.Sd) : ∀ u ∈ sdsV l, u.oneCell' = true := by
  intro u hu
  simp only [sdsV, List.mem_flatMap] at hu
  obtain ⟨s, _, hs⟩ := hu
  simp only [sdV, List.mem_cons, List.not_mem_nil, or_false] at hs
  rcases hs with rfl | rfl | rfl | rfl <;> rfl

/-- Nothing is appended. -/
theorem wpList_append_nothing {P : Program} {ops : Array Oper} {rest : List Oper} {o : Oper} {a : Act} {w : World} {Q : Exit → Act → World → Prop} (hgd : o.guard = none) (s x : Operand) (t : TypeId)
    (ho : o.op = .call { callee := .builtin .append, args := #[s, x], argTypes := #[t, t] }) (e : TypeId) (i : TypeInfo) (ht : P.underlying t = some (.slice e)) (hi : P.info? e = some i)
    (base : Option Addr) (n cap : Nat) (hle : n ≤ cap) (X : Value) (hs : a.eval s = .slice base n cap) (hx : a.eval x = X) (hsrc : Src P i.size t X 0 [] w)
    (h : wpList P ops Q rest (a.put o.dst (.slice base n cap)) w) : wpList P ops Q (o :: rest) a w := by
  refine wpList_plain hgd fun K hK => ?_
  have hr := run_append_nothing (P := P) w t t o.type e i ht hi base n cap hle X hsrc
  unfold Oper.wp execOp
  simp only [ho, resolve, invoke, builtin, Sem.run_bind, Sem.run_pure, Result.andThen_ok, List.map_toArray, List.map_cons, List.map_nil, hs, hx, hr]
  exact hK _ _ h
/-- An empty row that is owned yields nothing. -/
theorem own_src0 {P : Program} {w : World} {b : Nat} {t e : TypeId} {z : Nat} {v : Value} {xs : List Value} {ts : TypeId} (h : w.ownsRow b t z v 0 xs) (hk : P.underlying ts = some (.slice e)) (size : Nat) : Src P size ts v 0 [] w := by
  rcases h.2 with ⟨rfl, _⟩ | ⟨g, cap, cur, rfl, _⟩
  · exact Src.ofNil _ hk 0
  · exact Src.ofSlice _ hk ⟨g, 0, none⟩ 0 cap [] (by simp) (by simp) (by simp)
theorem own_cap {w : World} {b : Nat} {t : TypeId} {z : Nat} {v : Value} {n : Nat} {xs : List Value} (h : w.ownsRow b t z v n xs) : ∃ ao cap, v = .slice ao n cap ∧ n ≤ cap := by
  rcases h.2 with ⟨rfl, rfl⟩ | ⟨g, cap, cur, rfl, _, _, hc, _⟩
  · exact ⟨_, _, rfl, Nat.le_refl _⟩
  · exact ⟨_, _, rfl, hc⟩

theorem pix_mul (W y x : Nat) (hx : x < W) : (y * W + x) % W = x ∧ (y * W + x) / W = y := by
  constructor
  · rw [Nat.add_comm, Nat.add_mul_mod_self_right, Nat.mod_eq_of_lt hx]
  · rw [Nat.add_comm, Nat.add_mul_div_right _ _ (by omega), Nat.div_eq_of_lt hx]; omega

set_option maxHeartbeats 2000000 in
theorem refSides_any (W H : Nat) (s : ByteArray) (w : World) (hw1 : 1 ≤ W) (hw2 : W ≤ 32) (hh2 : H ≤ 32) (hl : s.size = W * H) :
    Calls Try.prog 52 #[.agg #[.int .i64 W, .int .i64 H, .string s]] w fun e w' => ∃ v, e = .returned v ∧ w'.ownsRow w.heap.size 87 4 v (Qm.sidesTo (Pm.blackB W H s.data.toList) W (W * H)).length (sdsV (Qm.sidesTo (Pm.blackB W H s.data.toList) W (W * H))) ∧ Below w.heap.size w w' := by
  obtain ⟨i0, hi, hz0, hz1, hz2⟩ := info_parts infoSide
  have HL := hid hl
  clear hl
  go_enter Try.func52, Try.ntmps52
  go_wp2
  go_loopw [3, 4] (fun v yv wr => ∃ (y : Nat), y ≤ H ∧ yv = .int .i64 y ∧ Hid (wr.ownsRow (w.heap.size + 1) 87 4 v (Qm.sidesTo (Pm.blackB W H s.data.toList) W (y * W)).length (sdsV (Qm.sidesTo (Pm.blackB W H s.data.toList) W (y * W)))) ∧ Inb w.heap.size W H s w wr) (fun _ y _ => H - (intOf y).toNat)
  case atStart => exact ⟨0, by omega, rfl, hid (by simpa [Qm.sidesTo, sdsV] using World.ownsRow_nil _ _ _ _), ⟨by simp, by simp, by simp, by go_grown, by simp⟩⟩
  case round =>
    obtain ⟨y, hy, rfl, ho, hI⟩ := hrel
    have HI := hid hI
    obtain ⟨c0, c1, c2, -, hz⟩ := hI
    by_cases hlt : y < H
    · go_wp2
      go_loopw [3, 5] (fun v xv wr => ∃ (x : Nat), x ≤ W ∧ xv = .int .i64 x ∧ Hid (wr.ownsRow (w.heap.size + 1) 87 4 v (Qm.sidesTo (Pm.blackB W H s.data.toList) W (y * W + x)).length (sdsV (Qm.sidesTo (Pm.blackB W H s.data.toList) W (y * W + x)))) ∧ Inb w.heap.size W H s w wr) (fun _ x _ => W - (intOf x).toNat)
      case atStart => exact ⟨0, by omega, rfl, by simpa using ho, HI.out⟩
      case round =>
        clear c0 c1 c2 hz ho HI
        obtain ⟨x, hx, rfl, ho, hI⟩ := hrel
        have HI := hid hI
        obtain ⟨c0, c1, c2, -, hz⟩ := hI
        by_cases hxt : x < W
        · have pm := pix_mul W y x hxt
          have bnd : y * W + x < 1024 := by
            have : (y + 1) * W ≤ 32 * 32 := Nat.mul_le_mul (by omega) hw2
            rw [Nat.add_mul] at this; omega
          have hlen := Qm.len_sidesTo (Pm.blackB W H s.data.toList) W (y * W + x)
          have PX : Hid (Qm.pixL (Pm.blackB W H s.data.toList) W (y * W + x) = if Pm.blackB W H s.data.toList (x : Nat) (y : Nat) then Qm.arL (Pm.blackB W H s.data.toList) (x : Nat) (y : Nat) else []) := by
            show _ = _
            unfold Qm.pixL
            rw [pm.1, pm.2]
          obtain ⟨m, hm⟩ : ∃ m, m = y * W + x := ⟨_, rfl⟩
          rw [← hm] at ho hlen PX bnd
          have HM := hid hm
          have ST : Hid (Qm.sidesTo (Pm.blackB W H s.data.toList) W (m + 1) = Qm.sidesTo (Pm.blackB W H s.data.toList) W m ++ Qm.pixL (Pm.blackB W H s.data.toList) W m) := rfl
          clear hm pm
          cases hq : Pm.blackB W H s.data.toList (x : Nat) (y : Nat)
          · go_wp2_with (go_at_call 71; refine (black_any W H s _ _ _ hw2 hh2 HL.out).mono ?_; rintro e w' ⟨rfl, rfl⟩; rw [hq])
            go_roundw
            case rel => exact ⟨x + 1, by omega, by go_num, hid (by rw [← Nat.add_assoc, ← HM.out, ST.out, PX.out, hq]; simpa using own_below ho.out ((Below.refl _ _).alloc (Nat.le_refl _) _)), HI.out.alloc _⟩
            case measure => simp [intOf]; omega
          · go_wp2_with (go_at_call 71; refine (black_any W H s _ _ _ hw2 hh2 HL.out).mono ?_; rintro e w' ⟨rfl, rfl⟩; rw [hq])
            refine (around_any W H s x y (by omega) (by omega) _ hw2 hh2 HL.out).mono ?_
            rintro e w1 ⟨va, rfl, oa, ba⟩
            have al := Qm.len_arL (Pm.blackB W H s.data.toList) x y
            have SO := hid (sds_one (Qm.arL (Pm.blackB W H s.data.toList) x y))
            have O1 := hid (own_below (ho.out.alloc _) ba)
            have I1 := hid ((HI.out.alloc _).on ba)
            have BA := hid ba
            have z1 := ba.size
            simp at z1
            obtain ⟨n, hn⟩ : ∃ n, n = (Qm.arL (Pm.blackB W H s.data.toList) x y).length := ⟨_, rfl⟩
            rw [← hn] at oa al
            have HN := hid hn
            clear ba hn c0 c1 c2
            by_cases h0 : 0 < n
            · obtain ⟨ga, ca, rfl, hcells⟩ := own_src oa h0
              have OA := hid oa
              have HC := hid hcells
              have n1 : (Qm.sidesTo (Pm.blackB W H s.data.toList) W m).length + n ≤ maxLen := by unfold maxLen; omega
              have n2 : ((Qm.sidesTo (Pm.blackB W H s.data.toList) W m).length + n) * 32 ≤ 140737488355328 := by omega
              have n3 : w.heap.size + 1 ≤ w1.heap.size := by omega
              have nl := hid (show (sdsV (Qm.arL (Pm.blackB W H s.data.toList) x y)).length = n * 4 by rw [sdsV_len, HN.out])
              clear oa hcells
              go_wp2_with (first
                | (at_builtin; refine wpList_append_own _ rfl _ _ 83 rfl (w.heap.size + 1) 87 i0 (.agg #[.int .i64 0, .int .i64 0, .int .i64 0, .int .i64 0]) 4 32 Try.underlying83 hi hz0 hz1 hz2 rfl (by decide) _ _ _ rfl O1.out ⟨ga, 0, none⟩ n ca (sdsV (Qm.arL (Pm.blackB W H s.data.toList) x y)) rfl nl.out HC.out SO.out n1 n2 n3 ?_))
              intro v' w2 o2 g2 _
              have B2 : Below (w.heap.size + 1) w1 w2 := (Below.refl _ _).grown g2 n3 (fun k hk => (O1.out.lt k hk).1)
              have I2 := hid (show Inb w.heap.size W H s w w2 from by
                obtain ⟨d0, d1, d2, d3, d4⟩ := I1.out
                exact ⟨(B2.cell (p := ⟨w.heap.size, 0, none⟩) (by simp)).trans d0, (B2.cell (p := ⟨w.heap.size, 1, none⟩) (by simp)).trans d1, (B2.cell (p := ⟨w.heap.size, 2, none⟩) (by simp)).trans d2, d3.trans (B2.mono (by omega)), Nat.lt_of_lt_of_le d4 B2.size⟩)
              have O2 := hid o2
              clear o2 g2 B2
              go_wp2
              go_roundw
              case rel => exact ⟨x + 1, by omega, by go_num, hid (by rw [← Nat.add_assoc, ← HM.out, ST.out, PX.out, hq]; simpa only [if_true, List.length_append, sdsV_app, ← HN.out] using O2.out), I2.out⟩
              case measure => simp [intOf]; omega
            · have e0 : n = 0 := by omega
              subst e0
              have SR := hid (own_src0 (P := Try.prog) (ts := 83) oa Try.underlying83 i0.size)
              obtain ⟨ao, cap, rfl, hcap⟩ := own_cap O1.out
              have E0 : Hid (Qm.arL (Pm.blackB W H s.data.toList) x y = []) := List.length_eq_zero_iff.1 HN.out.symm
              clear oa
              go_wp2_with (first
                | (at_builtin; refine wpList_append_nothing rfl _ _ 83 rfl 87 i0 Try.underlying83 hi ao _ cap hcap va rfl rfl SR.out ?_))
              go_roundw
              case rel => exact ⟨x + 1, by omega, by go_num, by rw [← Nat.add_assoc, ← HM.out, ST.out, PX.out, hq, if_pos rfl, E0.out, List.append_nil]; exact O1.out, I1.out⟩
              case measure => simp [intOf]; omega
        · have e1 : x = W := by omega
          have E : Hid (y * W + x = (y + 1) * W) := by show _ = _; rw [e1, Nat.add_mul]; omega
          go_wp2
          go_roundw
          case rel => exact ⟨y + 1, by omega, by go_num, by rw [← E.out]; exact ho.out, HI.out⟩
          case measure => simp [intOf]; omega
    · have e1 : y = H := by omega
      have E := hid (show W * H = y * W by rw [e1, Nat.mul_comm])
      go_wp2
      go_ret
      exact ⟨_, rfl, by rw [E.out]; exact ho.out.mono (base' := w.heap.size) (by omega), HI.out.2.2.2.1⟩
end Go.Proofs.Ytljfiefobnncaaa
