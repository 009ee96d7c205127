import Derived.Test.YtljfiefobnncaaaDoorK09
import Derived.Test.YtljfiefobnncaaaDoorK06
import Derived.Test.YtljfiefobnncaaaDoorK25
import Derived.Deep.RegionWith
import Derived.Deep.QuietTactic
import Derived.BigQuiet
import Derived.Test.YtljfiefobnncaaaDoorK15
import Derived.Test.YtljfiefobnncaaaDoorK22
import Derived.Deep.MidRow
import Derived.Deep.Upon
import Derived.OwnWalk

/- outlineref.Write. -/
namespace Go.Proofs.YtljfiefobnncaaaDoor
open Go.RowKit

set_option maxRecDepth 4000 in
set_option maxHeartbeats 400000 in
theorem refWrite_no (W H : Int) (s : ByteArray) (w : World) (hg : Pm.goodB W H s.data.toList = false) :
    Calls Tryd.prog 10 #[.agg #[.int .i64 W, .int .i64 H, .string s]] w fun e w' => e = .returned (.tuple #[.string ⟨#[]⟩, .int .i64 4]) ∧ Below w.heap.size w w' := by
  go_enter Tryd.func10, Tryd.ntmps10
  go_wp2_with (go_at_call 23; refine (good_any W H s _).mono ?_; rintro e w' ⟨rfl, rfl⟩; rw [hg])
  go_ret2
  exact ⟨rfl, ((Below.refl _ _).alloc (Nat.le_refl _) _).alloc (by simp) _⟩

/-- The box of a bitmap at block B stands; below it all is as it was. -/
def Inb (B : Nat) (W H : Nat) (s : ByteArray) (w wr : World) : Prop :=
  wr.cell? ⟨B, 0, none⟩ = some (.int .i64 W) ∧ wr.cell? ⟨B, 1, none⟩ = some (.int .i64 H) ∧ wr.cell? ⟨B, 2, none⟩ = some (.string s) ∧ Below B w wr ∧ B < wr.heap.size
theorem Inb.on {B W H : Nat} {s : ByteArray} {w wr w2 : World} (h : Inb B W H s w wr) (hb : Below wr.heap.size wr w2) : Inb B W H s w w2 := by
  obtain ⟨c0, c1, c2, hn, hz⟩ := h
  exact ⟨(hb.cell (p := ⟨B, 0, none⟩) hz).trans c0, (hb.cell (p := ⟨B, 1, none⟩) hz).trans c1, (hb.cell (p := ⟨B, 2, none⟩) hz).trans c2, hn.trans (hb.mono (Nat.le_of_lt hz)), Nat.lt_of_lt_of_le hz hb.size⟩
theorem Inb.alloc {B W H : Nat} {s : ByteArray} {w wr : World} (h : Inb B W H s w wr) (o : Obj) : Inb B W H s w (wr.alloc o) :=
  h.on ((Below.refl _ _).alloc (Nat.le_refl _) _)

/-- 'string([]byte{b})'. -/
theorem one_byte (b : UInt8) (v : Int) (hv : v = (b.toNat : Int)) (wx : World) :
    Sem.run Tryd.prog (convert 55 9 (.slice (some ⟨wx.heap.size, 0, none⟩) 1 1)) (wx.alloc (.cells #[.int .u8 v] 5)) = .ok (.string ⟨#[b]⟩) (wx.alloc (.cells #[.int .u8 v] 5)) := by
  subst hv
  refine run_convert_bytes_back (P := Tryd.prog) (wx.alloc (.cells #[.int .u8 (b.toNat : Int)] 5)) 55 9 5 ⟨wx.heap.size, 0, none⟩ 1 [b] Tryd.underlying55 Tryd.underlying5 Tryd.underlying9 (fun j hj => ?_)
  match j, hj with
  | 0, _ => simp [Addr.add]

set_option maxRecDepth 4000 in
set_option maxHeartbeats 1000000 in
theorem refWrite_yes (W H : Nat) (s : ByteArray) (w : World) (hw1 : 1 ≤ W) (hw2 : W ≤ 32) (hh1 : 1 ≤ H) (hh2 : H ≤ 32) (hl : s.size = W * H) (hg : Pm.goodB W H s.data.toList = true) :
    Calls Tryd.prog 10 #[.agg #[.int .i64 W, .int .i64 H, .string s]] w fun e w' => e = .returned (.tuple #[.string ⟨(Pm.writeTo W H s.data.toList H).toArray⟩, .int .i64 0]) ∧ Below w.heap.size w w' := by
  have HL := hid hl
  have hg2 := hid hg
  clear hl hg
  have iw := Pm.itoaL_len W
  have ih := Pm.itoaL_len H
  go_enter Tryd.func10, Tryd.ntmps10
  go_wp2_with (go_at_call 23; refine (good_any W H s _).mono ?_; rintro e w' ⟨rfl, rfl⟩; rw [hg2.out])
  go_quiet ((first | (go_at_call_of 24 (Value.int .i64 (W : Nat)); exact Calls.quiet_of_same (itoa_any W (by omega) _)) | (go_at_call_of 24 (Value.int .i64 (H : Nat)); exact Calls.quiet_of_same (itoa_any H (by omega) _))))
  go_wp2
  go_loopw [5, 6] (fun f i wr => ∃ (y : Nat) (F : ByteArray), y ≤ H ∧ i = .int .i64 y ∧ f = .string F ∧ Hid (F.data.toList = Pm.writeTo W H s.data.toList y) ∧ F.size ≤ 20 + 8 * y ∧ Inb w.heap.size W H s w wr) (fun _ i _ => H - (intOf i).toNat)
  case atStart => exact ⟨0, _, by omega, rfl, rfl, Pm.head_data W H, Pm.head_size W H, by simp, by simp, by simp, (((Below.refl _ _).alloc (Nat.le_refl _) _).alloc (by simp) _).trans ⟨rfl, rfl, rfl, Nat.le_refl _, fun _ _ => rfl⟩, by simp; omega⟩
  case round =>
    obtain ⟨y, F, hy, rfl, rfl, hF, hFs, c0, c1, c2, hnx, hsz⟩ := hrel
    by_cases hlt : y < H
    · go_wp2
      go_loopw [5, 7] (fun f i wr => ∃ (m : Nat) (G : ByteArray), 8 * m ≤ W + 7 ∧ i = .int .i64 (8 * (m : Int)) ∧ f = .string G ∧ Hid (G.data.toList = Pm.writeTo W H s.data.toList y ++ Pm.packTo (Pm.rowOf s.data.toList W y) m) ∧ G.size ≤ 20 + 8 * y + m ∧ Inb w.heap.size W H s w wr) (fun _ i _ => W + 8 - (intOf i).toNat)
      case atStart => exact ⟨0, _, by omega, rfl, rfl, by show _ = _; simpa [Pm.packTo] using hF.out, by omega, c0, c1, c2, hnx, hsz⟩
      case round =>
        clear c0 c1 c2 hnx hsz
        obtain ⟨m, G, hm, rfl, rfl, hG, hGs, c0, c1, c2, hnx, hsz⟩ := hrel
        by_cases hx : 8 * m < W
        · have hx' : 8 * (m : Int) < (W : Int) := by omega
          go_wp2
          go_loopw [8, 9] (fun v i wr => ∃ (k : Nat), k ≤ 8 ∧ i = .int .i64 k ∧ v = .int .i64 (Pm.colV W H s.data.toList m y k : Nat) ∧ Inb w.heap.size W H s w wr) (fun _ i _ => 8 - (intOf i).toNat)
          case atStart => exact ⟨0, by omega, rfl, rfl, c0, c1, c2, hnx, hsz⟩
          case round =>
            clear c0 c1 c2 hnx hsz
            obtain ⟨k, hk, rfl, rfl, c0, c1, c2, hnx, hsz⟩ := hrel
            by_cases hk8 : k < 8
            · have hc := Pm.colV_lt W H s.data.toList m y k hk8
              cases hq : Pm.blackB W H s.data.toList (8 * (m : Int) + (k : Nat)) y
              · have E := hid (Pm.colV_no W H s.data.toList m y k hq)
                go_wp2_with (go_at_call 25; refine (black_any W H s _ _ _ hw2 hh2 HL.out).mono ?_; rintro e w2 ⟨rfl, rfl⟩; rw [hq])
                go_roundw
                case rel => exact ⟨k + 1, by omega, by go_num, by rw [E.out]; go_num, Inb.alloc ⟨c0, c1, c2, hnx, hsz⟩ _⟩
                case measure => simp [intOf]; omega
              · have E := hid (Pm.colV_yes W H s.data.toList m y k hq)
                go_wp2_with (go_at_call 25; refine (black_any W H s _ _ _ hw2 hh2 HL.out).mono ?_; rintro e w2 ⟨rfl, rfl⟩; rw [hq])
                go_roundw
                case rel => exact ⟨k + 1, by omega, by go_num, by rw [E.out]; go_num, Inb.alloc ⟨c0, c1, c2, hnx, hsz⟩ _⟩
                case measure => simp [intOf]; omega
            · obtain rfl : k = 8 := by omega
              have hc := Pm.byte_row W H s.data.toList m y hlt
              have hcv := one_byte (Pm.byteAt (Pm.rowOf s.data.toList W y) (8 * m)) ((Pm.colV W H s.data.toList m y 8 : Int) % 256) (by have := Pm.colV_le W H s.data.toList m y 8 (by omega); omega) wr
              have D := hid (Pm.mid_data G _ _ m hG.out)
              clear hc
              go_wp2
              go_roundw
              case rel => exact ⟨m + 1, _, by omega, by go_num, rfl, D, Pm.one_size G _ _ hGs, Inb.alloc ⟨c0, c1, c2, hnx, hsz⟩ _⟩
              case measure => simp [intOf]; omega
        · have e := hid (Pm.mid_end W H s.data.toList y m (by simpa using HL.out) hlt hm (by omega))
          go_wp2
          go_roundw
          case rel => exact ⟨y + 1, G, by omega, by go_num, rfl, hG.out.trans e.out, by omega, c0, c1, c2, hnx, hsz⟩
          case measure => simp [intOf]; omega
    · go_wp2
      go_ret2
      refine ⟨?_, hnx⟩
      rw [Pm.of_data F _ hF.out, show y = H from by omega]; rfl
end Go.Proofs.YtljfiefobnncaaaDoor

/- Owned rows: what is appended; small facts on lists. -/
namespace Go.Proofs.YtljfiefobnncaaaDoor
open Go.RowKit

/-- A row that is owned, behind a row that is owned: what the law of append asks of what is appended. -/
theorem own_src {w : World} {b : Nat} {t : TypeId} {z : Nat} {v : Value} {n : Nat} {xs : List Value} (h : w.ownsRow b t z v n xs) (hn : 0 < n) : ∃ g cap, v = .slice (some ⟨g, 0, none⟩) n cap ∧ ∀ j u, xs[j]? = some u → w.cell? ((⟨g, 0, none⟩ : Addr).add j) = some u := by
  rcases h.2 with ⟨_, h0⟩ | ⟨g, cap, cur, rfl, _⟩
  · omega
  · exact ⟨g, cap, rfl, fun j u hu => h.cells (g := g) rfl j u hu⟩

/-- Nothing is appended. -/
theorem wpList_append_nothing {P : Program} {ops : Array Oper} {rest : List Oper} {o : Oper} {a : Act} {w : World} {Q : Exit → Act → World → Prop} (hgd : o.guard = none) (s x : Operand) (t : TypeId)
    (ho : o.op = .call { callee := .builtin .append, args := #[s, x], argTypes := #[t, t] }) (e : TypeId) (i : TypeInfo) (ht : P.underlying t = some (.slice e)) (hi : P.info? e = some i)
    (base : Option Addr) (n cap : Nat) (hle : n ≤ cap) (X : Value) (hs : a.eval s = .slice base n cap) (hx : a.eval x = X) (hsrc : Src P i.size t X 0 [] w)
    (h : wpList P ops Q rest (a.put o.dst (.slice base n cap)) w) : wpList P ops Q (o :: rest) a w := by
  refine wpList_plain hgd fun K hK => ?_
  have hr := run_append_nothing (P := P) w t t o.type e i ht hi base n cap hle X hsrc
  unfold Oper.wp execOp
  simp only [ho, resolve, invoke, builtin, Sem.run_bind, Sem.run_pure, Result.andThen_ok, List.map_toArray, List.map_cons, List.map_nil, hs, hx, hr]
  exact hK _ _ h
/-- An empty row that is owned yields nothing. -/
theorem own_src0 {P : Program} {w : World} {b : Nat} {t e : TypeId} {z : Nat} {v : Value} {xs : List Value} {ts : TypeId} (h : w.ownsRow b t z v 0 xs) (hk : P.underlying ts = some (.slice e)) (size : Nat) : Src P size ts v 0 [] w := by
  rcases h.2 with ⟨rfl, _⟩ | ⟨g, cap, cur, rfl, _⟩
  · exact Src.ofNil _ hk 0
  · exact Src.ofSlice _ hk ⟨g, 0, none⟩ 0 cap [] (by simp) (by simp) (by simp)
theorem own_cap {w : World} {b : Nat} {t : TypeId} {z : Nat} {v : Value} {n : Nat} {xs : List Value} (h : w.ownsRow b t z v n xs) : ∃ ao cap, v = .slice ao n cap ∧ n ≤ cap := by
  rcases h.2 with ⟨rfl, rfl⟩ | ⟨g, cap, cur, rfl, _, _, hc, _⟩
  · exact ⟨_, _, rfl, Nat.le_refl _⟩
  · exact ⟨_, _, rfl, hc⟩

theorem pts_one (l : List (Int × Int)) : ∀ u ∈ Qm.ptsV l, u.oneCell' = true := by
  intro u hu
  simp only [Qm.ptsV, List.mem_flatMap] at hu
  obtain ⟨s, _, hs⟩ := hu
  simp only [Qm.ptV, List.mem_cons, List.not_mem_nil, or_false] at hs
  rcases hs with rfl | rfl <;> rfl
theorem ptsV_app (a b : List (Int × Int)) : Qm.ptsV (a ++ b) = Qm.ptsV a ++ Qm.ptsV b := by simp [Qm.ptsV]

theorem mem_take_getD {α : Type} {L : List α} {j : Nat} {x d : α} (h : x ∈ L.take j) : ∃ m, m < j ∧ m < L.length ∧ L.getD m d = x := by
  obtain ⟨m, hm, rfl⟩ := List.mem_iff_getElem.1 h
  simp only [List.length_take] at hm
  exact ⟨m, by omega, by omega, by rw [List.getD_eq_getElem?_getD, List.getElem?_eq_getElem (by omega), List.getElem_take]; rfl⟩

end Go.Proofs.YtljfiefobnncaaaDoor

/- outlineref.Twice. -/
namespace Go.Proofs.YtljfiefobnncaaaDoor
open Go.RowKit

set_option maxRecDepth 4000 in
set_option maxHeartbeats 2000000 in
theorem refTwice_big (g n cap : Nat) (l : List (Int × Int)) (hn : n = l.length) (h0 : 0 < n) (hs : Qm.Small l) (hn2 : n ≤ 140737488355328) (w : World) (hP : PtsAt g l w) :
    Calls Tryd.prog 50 #[.slice (some ⟨g, 0, none⟩) n cap] w fun e w' => e = .returned (.int .i64 (Qm.twiceOf l)) ∧ Below w.heap.size w w' := by
  have HP := hid hP
  have hg := hP.1
  have HN := hid hn
  have e0 : ((n : Int) == 0) = false := by simp; omega
  clear hP hn
  go_enter Tryd.func50, Tryd.ntmps50
  go_wp2
  go_loopw [3, 4] (fun sm i wr => ∃ k : Nat, k ≤ n ∧ i = .int .i64 k ∧ sm = .int .i64 (Qm.fsum l k) ∧ Below w.heap.size w wr) (fun _ i _ => n - (intOf i).toNat)
  case atStart => exact ⟨0, by omega, rfl, rfl, Below.refl _ _⟩
  case round =>
    obtain ⟨k, hk, rfl, rfl, hb⟩ := hrel
    have HB := hid hb
    have ts := Qm.fsum_small hs k
    by_cases hlt : k < n
    · obtain ⟨r, hr⟩ : ∃ r, r = (k + 1) % n := ⟨_, rfl⟩
      have hrn : r < n := by rw [hr]; exact Nat.mod_lt _ h0
      have er : ((k : Int) + 1) % (n : Int) = (r : Nat) := by rw [hr]; simp
      obtain ⟨r0, r1⟩ := (HP.out.on hb hg).2 k (by have := HN.out; omega)
      obtain ⟨q0, q1⟩ := (HP.out.on hb hg).2 r (by have := HN.out; omega)
      have sp := hs.at k
      have sq := hs.at r
      have E2 : Hid (Qm.fsum l (k + 1) = Qm.fsum l k + ((l.getD k (0, 0)).2 * (l.getD r (0, 0)).1 - (l.getD k (0, 0)).1 * (l.getD r (0, 0)).2)) := by rw [hr, HN.out]; rfl
      have m1 := Qm.mul_small sp.2.2.1 sp.2.2.2 sq.1 sq.2.1
      have m2 := Qm.mul_small sp.1 sp.2.1 sq.2.2.1 sq.2.2.2
      obtain ⟨⟨pa, pb⟩, hpp⟩ : ∃ p, p = l.getD k (0, 0) := ⟨_, rfl⟩
      obtain ⟨⟨qa, qb⟩, hqq⟩ : ∃ p, p = l.getD r (0, 0) := ⟨_, rfl⟩
      rw [← hpp] at r0 r1 m1 m2 sp E2
      rw [← hqq] at q0 q1 m1 m2 sq E2
      dsimp only at r0 r1 q0 q1 m1 m2 sp sq
      obtain ⟨u, hu⟩ : ∃ u, pb * qa = u := ⟨_, rfl⟩
      obtain ⟨z, hzz⟩ : ∃ z, pa * qb = z := ⟨_, rfl⟩
      rw [hu] at m1
      rw [hzz] at m2
      have hz := HB.out.size
      have b1 : (0 : Int) ≤ (r : Nat) := by omega
      have b2 : ((r : Nat) : Int) < (n : Nat) := by omega
      have hg2 : g < wr.heap.size := by omega
      clear hb hpp hqq hr
      go_wp2
      go_roundw
      case rel => exact ⟨k + 1, by omega, by go_num, by rw [E2.out]; dsimp only; rw [hu, hzz]; congr 1; omega, (HB.out.alloc hz _).alloc (by simp; omega) _⟩
      case measure => simp [intOf]; omega
    · have ek : k = n := by omega
      go_wp2
      go_ret
      exact ⟨ret_int (by rw [ek, HN.out]; exact (Qm.twiceOf_fsum l).symm), HB.out⟩

theorem refTwice_any (g n cap : Nat) (l : List (Int × Int)) (hn : n = l.length) (h0 : 0 < n) (hs : Qm.Small l) (hn2 : n ≤ 4356) (w : World) (hP : PtsAt g l w) :
    Calls Tryd.prog 50 #[.slice (some ⟨g, 0, none⟩) n cap] w fun e w' => e = .returned (.int .i64 (Qm.twiceOf l)) ∧ Below w.heap.size w w' :=
  refTwice_big g n cap l hn h0 hs (by omega) w hP

end Go.Proofs.YtljfiefobnncaaaDoor
