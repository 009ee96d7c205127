import Derived.Test.YtljfiefobnncaaaK11
import Derived.Deep.AppendLies
import Derived.Deep.RegionHeld3
import Derived.Deep.RegionLaw
import Derived.Deep.DrawnRows

/- outlinelaw: looks. -/
namespace Go.Proofs.Ytljfiefobnncaaa
open Go.RowKit

set_option maxRecDepth 4000 in
set_option maxHeartbeats 1000000 in
theorem looks_any (kb : Nat) (N : Int) (vp vs : Value) (P S : List Rec) (w : World) (h : BookAt kb N vp vs P S w) :
    Calls Try.prog 12 #[.pointer (some ⟨kb, 0, none⟩)] w fun e w' => e = .returned (.bool true) ∧ Below w.heap.size w w' := by
  obtain ⟨ap, cp, rfl, hnp, hp⟩ := h.p.1
  obtain ⟨asl, cs, rfl, hns, hs⟩ := h.s.1
  have HB := hid h
  obtain ⟨np, enp⟩ : ∃ np, np = P.length := ⟨_, rfl⟩
  obtain ⟨ns, ens⟩ : ∃ ns, ns = S.length := ⟨_, rfl⟩
  rw [← enp, ← ens] at HB
  rw [← enp] at hnp hp
  rw [← ens] at hns hs
  have HNp := hid enp
  have HNs := hid ens
  have HP := hid hp
  have HS := hid hs
  have BL0 := hid (Below.refl w.heap.size w)
  have c0 := HB.out.c0
  have c1 := HB.out.c1
  have c2 := HB.out.c2
  have kz0 := HB.out.lt
  clear h enp ens hp hs
  go_enter Try.func12, Try.ntmps12
  go_wp2
  go_loopw [3, 4] (fun ok iv wr => ∃ i : Nat, i ≤ np ∧ ok = .bool true ∧ iv = .int .i64 i ∧ Below w.heap.size w wr) (fun _ i _ => np - (intOf i).toNat)
  case atStart => exact ⟨0, by omega, rfl, rfl, BL0.out⟩
  case round =>
    clear c0 c1 c2 kz0 BL0
    obtain ⟨i, hin, rfl, rfl, hbl⟩ := hrel
    have BK := hid (HB.out.call hbl)
    have BL := hid hbl
    have c0 := BK.out.c0
    have c1 := BK.out.c1
    have c2 := BK.out.c2
    clear hbl
    by_cases hlt : i < np
    · obtain ⟨g, rfl, hg, hc⟩ := HP.out.resolve_left (by omega)
      have hiP : i < P.length := by have := HNp.out; omega
      obtain ⟨r, hr⟩ : ∃ r, r = P.getD i rec0 := ⟨_, rfl⟩
      have hmem : r ∈ P := by rw [hr, List.getD_eq_getElem?_getD, List.getElem?_eq_getElem hiP]; exact List.getElem_mem hiP
      have mk := BK.out.p.2 r hmem
      have rv := recsV_at P i hiP
      rw [← hr] at rv
      obtain ⟨rl, rg, rh, ri, mark⟩ := r
      obtain ⟨a1, n1, k1, rfl⟩ := mk.1.slice
      obtain ⟨a2, n2, k2, rfl⟩ := mk.2.1.slice
      obtain ⟨a3, n3, k3, rfl⟩ := mk.2.2.1.slice
      obtain ⟨a4, n4, k4, rfl⟩ := mk.2.2.2.slice
      dsimp only at rv
      have r0 := (BL.out.cell (p := ⟨g, i * 5, none⟩) hg).trans (hc _ _ rv.1)
      have r1 := (BL.out.cell (p := ⟨g, i * 5 + 1, none⟩) hg).trans (hc _ _ rv.2.1)
      have r2 := (BL.out.cell (p := ⟨g, i * 5 + 2, none⟩) hg).trans (hc _ _ rv.2.2.1)
      have r3 := (BL.out.cell (p := ⟨g, i * 5 + 3, none⟩) hg).trans (hc _ _ rv.2.2.2.1)
      have r4 := (BL.out.cell (p := ⟨g, i * 5 + 4, none⟩) hg).trans (hc _ _ rv.2.2.2.2)
      have MKH := hid mk
      have i0' : (0 : Int) ≤ (i : Nat) := by omega
      have i1' : ((i : Nat) : Int) < (np : Nat) := by omega
      have gz : g < wr.heap.size := Nat.lt_of_lt_of_le hg BL.out.size
      have kz : kb < wr.heap.size := BK.out.lt
      have wz := BL.out.size
      clear rv hr hmem mk hc
      go_wp2_with fail
      refine (marked_any _ mark _ (MKH.out.1.call ((Below.refl _ _).alloc (Nat.le_refl _) _))).mono ?_
      rintro e w1 ⟨rfl, rfl⟩
      go_wp2_with fail
      refine (marked_any _ mark _ (MKH.out.2.1.call ((Below.refl _ _).alloc (Nat.le_refl _) _))).mono ?_
      rintro e w1 ⟨rfl, rfl⟩
      go_wp2_with fail
      refine (marked_any _ mark _ (MKH.out.2.2.1.call ((Below.refl _ _).alloc (Nat.le_refl _) _))).mono ?_
      rintro e w1 ⟨rfl, rfl⟩
      go_wp2_with fail
      refine (marked_any _ mark _ (MKH.out.2.2.2.call ((Below.refl _ _).alloc (Nat.le_refl _) _))).mono ?_
      rintro e w1 ⟨rfl, rfl⟩
      go_wp2
      go_roundw
      case rel => exact ⟨i + 1, by omega, rfl, by go_num, BL.out.alloc wz _⟩
      case measure => simp [intOf]; omega
    · have hk' : ((np : Nat) : Int) ≤ (i : Nat) := by omega
      have kz0 := BK.out.lt
      have BL0 := BL
      go_wp2
      go_loopw [3, 10] (fun ok iv wr => ∃ i : Nat, i ≤ ns ∧ ok = .bool true ∧ iv = .int .i64 i ∧ Below w.heap.size w wr) (fun _ i _ => ns - (intOf i).toNat)
      case atStart => exact ⟨0, by omega, rfl, rfl, BL0.out⟩
      case round =>
        clear c0 c1 c2 kz0 BL0 BK BL hin hlt hk'
        obtain ⟨i, hin, rfl, rfl, hbl⟩ := hrel
        have BK := hid (HB.out.call hbl)
        have BL := hid hbl
        have c0 := BK.out.c0
        have c1 := BK.out.c1
        have c2 := BK.out.c2
        clear hbl
        by_cases hlt : i < ns
        · obtain ⟨g, rfl, hg, hc⟩ := HS.out.resolve_left (by omega)
          have hiP : i < S.length := by have := HNs.out; omega
          obtain ⟨r, hr⟩ : ∃ r, r = S.getD i rec0 := ⟨_, rfl⟩
          have hmem : r ∈ S := by rw [hr, List.getD_eq_getElem?_getD, List.getElem?_eq_getElem hiP]; exact List.getElem_mem hiP
          have mk := BK.out.s.2 r hmem
          have rv := recsV_at S i hiP
          rw [← hr] at rv
          obtain ⟨rl, rg, rh, ri, mark⟩ := r
          obtain ⟨a1, n1, k1, rfl⟩ := mk.1.slice
          obtain ⟨a2, n2, k2, rfl⟩ := mk.2.1.slice
          obtain ⟨a3, n3, k3, rfl⟩ := mk.2.2.1.slice
          obtain ⟨a4, n4, k4, rfl⟩ := mk.2.2.2.slice
          dsimp only at rv
          have r0 := (BL.out.cell (p := ⟨g, i * 5, none⟩) hg).trans (hc _ _ rv.1)
          have r1 := (BL.out.cell (p := ⟨g, i * 5 + 1, none⟩) hg).trans (hc _ _ rv.2.1)
          have r2 := (BL.out.cell (p := ⟨g, i * 5 + 2, none⟩) hg).trans (hc _ _ rv.2.2.1)
          have r3 := (BL.out.cell (p := ⟨g, i * 5 + 3, none⟩) hg).trans (hc _ _ rv.2.2.2.1)
          have r4 := (BL.out.cell (p := ⟨g, i * 5 + 4, none⟩) hg).trans (hc _ _ rv.2.2.2.2)
          have MKH := hid mk
          have i0' : (0 : Int) ≤ (i : Nat) := by omega
          have i1' : ((i : Nat) : Int) < (ns : Nat) := by omega
          have gz : g < wr.heap.size := Nat.lt_of_lt_of_le hg BL.out.size
          have kz : kb < wr.heap.size := BK.out.lt
          have wz := BL.out.size
          clear rv hr hmem mk hc
          go_wp2_with fail
          refine (shaped_any _ mark _ (MKH.out.1.call ((Below.refl _ _).alloc (Nat.le_refl _) _))).mono ?_
          rintro e w1 ⟨rfl, rfl⟩
          go_wp2_with fail
          refine (shaped_any _ mark _ (MKH.out.2.1.call ((Below.refl _ _).alloc (Nat.le_refl _) _))).mono ?_
          rintro e w1 ⟨rfl, rfl⟩
          go_wp2_with fail
          refine (shaped_any _ mark _ (MKH.out.2.2.1.call ((Below.refl _ _).alloc (Nat.le_refl _) _))).mono ?_
          rintro e w1 ⟨rfl, rfl⟩
          go_wp2_with fail
          refine (shaped_any _ mark _ (MKH.out.2.2.2.call ((Below.refl _ _).alloc (Nat.le_refl _) _))).mono ?_
          rintro e w1 ⟨rfl, rfl⟩
          go_wp2
          go_roundw
          case rel => exact ⟨i + 1, by omega, rfl, by go_num, BL.out.alloc wz _⟩
          case measure => simp [intOf]; omega
        · have hk' : ((ns : Nat) : Int) ≤ (i : Nat) := by omega
          go_wp2
          go_ret
          exact ⟨rfl, BL.out⟩
end Go.Proofs.Ytljfiefobnncaaa

/- append, and what becomes of the list that was appended to: it stays, and only what is new is written behind it. -/
namespace Go.Proofs.Ytljfiefobnncaaa
open Go.RowKit

theorem run_append_keeps {P : Program} (w : World) (base : Nat) (t ty e : TypeId) (i : TypeInfo) (z : Value) (size bytes : Nat) (ht : P.underlying t = some (.slice e)) (hi : P.info? e = some i) (hz : i.zero = some z)
    (hsize : i.size = size) (hby : i.bytes = bytes) (hzs : z.cells.size = size) (hsz : 0 < size)
    (v : Value) (n : Nat) (xs : List Value) (hown : w.ownsRow base e size v n xs)
    (a : Addr) (m c : Nat) (news : List Value) (hl : news.length = m * size) (hnews : ∀ j u, news[j]? = some u → w.cell? (a.add j) = some u) (h1 : ∀ u ∈ news, u.oneCell' = true)
    (h63 : n + m ≤ maxLen) (hbytes : (n + m) * bytes ≤ 140737488355328) (hbase : base ≤ w.heap.size) :
    ∃ v' w', (Builtin.append_ #[t, t] ty #[v, .slice (some a) m c]).run P w = .ok v' w' ∧ w'.ownsRow base e size v' (n + m) (xs ++ news) ∧ w.grownBy w' v.ownBlock ∧ (v'.ownBlock = v.ownBlock ∨ v'.ownBlock = some w.heap.size) ∧
      w'.ownsRow base e size v n xs ∧ (∀ g j u, v.ownBlock = some g → w.cell? ⟨g, j, none⟩ = some u → w'.cell? ⟨g, j, none⟩ = some u ∨ ∃ q, j = n * size + q ∧ w'.cell? ⟨g, j, none⟩ = news[q]? ∧ q < news.length) := by
  obtain ⟨v', w', hr, h2, h3, _, h5⟩ := run_append_own_at (P := P) w base t ty e i z size bytes ht hi hz hsize hby hzs hsz v n xs hown a m c news hl hnews h1 h63 hbytes hbase
  refine ⟨v', w', hr, h2, h3, h5, ?_⟩
  rcases hown.2 with ⟨rfl, rfl⟩ | ⟨g, cap, cur, rfl, hbg, hg, hnc, hcm, hcs, htake⟩
  · refine ⟨⟨by simpa using hown.1, .inl ⟨rfl, rfl⟩⟩, fun g j u hg => by simp [Value.ownBlock] at hg⟩
  · subst hsize
    by_cases hroom : n + m ≤ cap
    · have hfit : n * i.size + news.length ≤ cur.size := by rw [hl, hcs, ← Nat.add_mul]; exact Nat.mul_le_mul_right _ hroom
      have hr2 := run_append_room (P := P) w t ty e i ht hi g n cap cur hg a m c news hl hnews h1 hroom hfit
      rw [hr2] at hr
      injection hr with e1 e2
      subst e2
      obtain ⟨A, hA⟩ : ∃ A, A = n * i.size := ⟨_, rfl⟩
      rw [← hA] at hfit htake ⊢
      have hh := setRow_heap w g cur (cur.toList.take A ++ news ++ cur.toList.drop (A + news.length)).toArray e _ hg
      have ca : ∀ j, (w.setRow g (cur.toList.take A ++ news ++ cur.toList.drop (A + news.length)).toArray).cell? ⟨g, j, none⟩ = (cur.toList.take A ++ news ++ cur.toList.drop (A + news.length))[j]? := fun j => by
        simp only [World.cell?, hh]; simp
      have cb : ∀ j, w.cell? ⟨g, j, none⟩ = cur[j]? := fun j => by simp only [World.cell?, hg]; simp
      refine ⟨⟨hown.1, .inr ⟨g, cap, _, rfl, hbg, hh, hnc, hcm, ?_, ?_⟩⟩, fun g' j u hg' hu => ?_⟩
      · simp only [List.size_toArray, List.length_append, List.length_take, List.length_drop, Array.length_toList]
        omega
      · rw [← hA, List.append_assoc, List.take_append_of_le_length (by simp; omega)]
        simp only [List.take_take, Nat.min_self]
        exact htake
      · simp only [Value.ownBlock, Option.some.injEq] at hg'
        subst hg'
        rw [ca]
        rw [cb] at hu
        have hj : j < cur.size := (Array.getElem?_eq_some_iff.1 hu).1
        by_cases h6 : j < A
        · left
          rw [List.append_assoc, List.getElem?_append_left (by simp; omega), List.getElem?_take, if_pos h6]
          simpa using hu
        · by_cases h7 : j < A + news.length
          · right
            refine ⟨j - A, by omega, ?_, by omega⟩
            rw [List.append_assoc, List.getElem?_append_right (by simp; omega), List.getElem?_append_left (by simp; omega)]
            congr 1
            simp; omega
          · left
            rw [List.getElem?_append_right (by simp; omega), List.getElem?_drop]
            have e9 : A + news.length + (j - (cur.toList.take A ++ news).length) = j := by simp; omega
            rw [e9]
            simpa using hu
    · have holds : ∀ j u, xs[j]? = some u → w.cell? ((⟨g, 0, none⟩ : Addr).add j) = some u := hown.cells (g := g) rfl
      have hr2 := run_append_grow (P := P) w t ty e i z ht hi hz ⟨g, 0, none⟩ n cap xs hown.1 holds a m c news hl hnews (by omega) (by simp only [maxLen] at h63; omega) (growslice_fits (by omega) (by rw [hby]; exact hbytes))
      rw [hr2] at hr
      injection hr with e1 e2
      subst e2
      have hlt := (Array.getElem?_eq_some_iff.1 hg).1
      refine ⟨⟨hown.1, .inr ⟨g, cap, cur, rfl, hbg, ?_, hnc, hcm, hcs, htake⟩⟩, fun g' j u hg' hu => .inl ?_⟩
      · exact (Below.heap_alloc _ _ _ hlt).trans hg
      · simp only [Value.ownBlock, Option.some.injEq] at hg'
        subst hg'
        rw [← hu]
        exact World.cell?_of_block (a := ⟨g, j, none⟩) (Below.heap_alloc _ _ _ hlt)

/-- At the operation, for the walk. -/
theorem wpList_append_keeps {P : Program} {w : World} {ops : Array Oper} {rest : List Oper} {o : Oper} {a : Act} {Q : Exit → Act → World → Prop} (hgd : o.guard = none) (s x : Operand) (t : TypeId)
    (ho : o.op = .call { callee := .builtin .append, args := #[s, x], argTypes := #[t, t] })
    (base : Nat) (e : TypeId) (i : TypeInfo) (z : Value) (size bytes : Nat) (ht : P.underlying t = some (.slice e)) (hi : P.info? e = some i) (hz : i.zero = some z)
    (hsize : i.size = size) (hby : i.bytes = bytes) (hzs : z.cells.size = size) (hsz : 0 < size)
    (v : Value) (n : Nat) (xs : List Value) (hs : a.eval s = v) (hown : w.ownsRow base e size v n xs)
    (ad : Addr) (m c : Nat) (news : List Value) (hx : a.eval x = .slice (some ad) m c) (hl : news.length = m * size) (hnews : ∀ j u, news[j]? = some u → w.cell? (ad.add j) = some u) (h1 : ∀ u ∈ news, u.oneCell' = true)
    (h63 : n + m ≤ maxLen) (hbytes : (n + m) * bytes ≤ 140737488355328) (hbase : base ≤ w.heap.size)
    (h : ∀ v' w', Hid (w'.ownsRow base e size v' (n + m) (xs ++ news)) → Hid (w.grownBy w' v.ownBlock) → Hid (v'.ownBlock = v.ownBlock ∨ v'.ownBlock = some w.heap.size) → Hid (w'.ownsRow base e size v n xs) →
      Hid (∀ g j u, v.ownBlock = some g → w.cell? ⟨g, j, none⟩ = some u → w'.cell? ⟨g, j, none⟩ = some u ∨ ∃ q, j = n * size + q ∧ w'.cell? ⟨g, j, none⟩ = news[q]? ∧ q < news.length) → wpList P ops Q rest (a.put o.dst v') w') :
    wpList P ops Q (o :: rest) a w := by
  refine wpList_plain hgd fun K hK => ?_
  obtain ⟨v', w', hr, h2, h3, h4, h5, h6⟩ := run_append_keeps (P := P) w base t o.type e i z size bytes ht hi hz hsize hby hzs hsz v n xs hown ad m c news hl hnews h1 h63 hbytes hbase
  unfold Oper.wp execOp
  simp only [ho, resolve, invoke, builtin, Sem.run_bind, Sem.run_pure, Result.andThen_ok, List.map_toArray, List.map_cons, List.map_nil, hs, hx, hr]
  exact hK _ _ (h v' w' h2 h3 h4 h5 h6)
end Go.Proofs.Ytljfiefobnncaaa

/- The book: what is written into a list and behind it. -/
namespace Go.Proofs.Ytljfiefobnncaaa
open Go.RowKit

/-- A store into a row that is owned. -/
theorem own_set {w : World} {b : Nat} {e : TypeId} {z : Nat} {g n cap : Nat} {xs : List Value} (h : w.ownsRow b e z (.slice (some ⟨g, 0, none⟩) n cap) n xs) (j : Nat) (u : Value) : (w.setCell ⟨g, j, none⟩ u).ownsRow b e z (.slice (some ⟨g, 0, none⟩) n cap) n (xs.set j u) := by
  refine ⟨by rw [List.length_set]; exact h.1, ?_⟩
  rcases h.2 with ⟨h1, _⟩ | ⟨g', cap', cur, h1, hb, hg, hn, hm, hs, ht⟩
  · cases h1
  · injection h1 with h1 h2 h3
    injection h1 with h1
    injection h1 with h1 _ _
    subst h1 h3
    refine .inr ⟨g, cap, cur.setIfInBounds j u, rfl, hb, ?_, hn, hm, by simpa using hs, ?_⟩
    · simp only [World.setCell, Array.getElem?_modify, hg]
      simp
    · rw [← ht, Array.toList_setIfInBounds]
      exact List.take_set
theorem ptsV_set (l : List (Int × Int)) (p : Int × Int) : ∀ i, i < l.length → ((Qm.ptsV l).set (i * 2) (.int .i64 p.1)).set (i * 2 + 1) (.int .i64 p.2) = Qm.ptsV (l.set i p) := by
  induction l with
  | nil => intro i hi; simp at hi
  | cons q l ih =>
    intro i hi
    have e : ∀ (q : Int × Int) (l : List (Int × Int)), Qm.ptsV (q :: l) = .int .i64 q.1 :: .int .i64 q.2 :: Qm.ptsV l := fun q l => by simp [Qm.ptsV, Qm.ptV]
    cases i with
    | zero => show _ = Qm.ptsV (p :: l); rw [e, e]; rfl
    | succ i =>
      rw [e, List.set_cons_succ, e, ← ih i (by simpa using hi), show (i + 1) * 2 = i * 2 + 1 + 1 from by omega]
      rfl
/-- The first i points are the mark's, the others as they were. -/
def fillTo (l : List (Int × Int)) (p : Int × Int) (i : Nat) : List (Int × Int) := List.replicate i p ++ l.drop i
theorem fillTo_succ (l : List (Int × Int)) (p : Int × Int) (i : Nat) (hi : i < l.length) : (fillTo l p i).set i p = fillTo l p (i + 1) := by
  unfold fillTo
  apply List.ext_getElem?
  intro j
  rw [List.getElem?_set]
  simp only [List.length_append, List.length_replicate, List.length_drop]
  by_cases e : i = j
  · subst e
    rw [if_pos rfl, if_pos (by omega), List.getElem?_append_left (by simp), List.getElem?_replicate, if_pos (by omega)]
  · rw [if_neg e]
    by_cases h1 : j < i
    · rw [List.getElem?_append_left (by simpa using h1), List.getElem?_append_left (by simp; omega)]
      simp [List.getElem?_replicate, h1]; omega
    · rw [List.getElem?_append_right (by simp; omega), List.getElem?_append_right (by simp; omega)]
      simp only [List.length_replicate, List.getElem?_drop]
      congr 1; omega
theorem fillTo_len (l : List (Int × Int)) (p : Int × Int) (i : Nat) (hi : i ≤ l.length) : (fillTo l p i).length = l.length := by simp [fillTo]; omega

/-- Only the blocks of C, and new ones, have turned. -/
structure Fr (C : Nat → Prop) (w w' : World) : Prop where
  os : w'.os = w.os
  tape : w'.tape = w.tape
  output : w'.output = w.output
  size : w.heap.size ≤ w'.heap.size
  block : ∀ k, k < w.heap.size → ¬ C k → w'.heap[k]? = w.heap[k]?
theorem Fr.refl (C : Nat → Prop) (w : World) : Fr C w w := ⟨rfl, rfl, rfl, Nat.le_refl _, fun _ _ _ => rfl⟩
theorem Fr.trans {C : Nat → Prop} {a b c : World} (h : Fr C a b) (k : Fr C b c) : Fr C a c := ⟨k.os.trans h.os, k.tape.trans h.tape, k.output.trans h.output, Nat.le_trans h.size k.size, fun i hi hn => (k.block i (Nat.lt_of_lt_of_le hi h.size) hn).trans (h.block i hi hn)⟩
theorem Fr.below {C : Nat → Prop} {a b : World} (h : Below a.heap.size a b) : Fr C a b := ⟨h.os, h.tape, h.output, h.size, fun k hk _ => h.block k hk⟩
theorem Fr.grown {C : Nat → Prop} {a b : World} {r : Option Nat} (h : a.grownBy b r) (hr : ∀ k, r = some k → k < a.heap.size → C k) : Fr C a b := ⟨h.os, h.tape, h.output, h.size, fun k hk hn => h.block k hk (fun e => hn (hr k e.symm hk))⟩
theorem Fr.set {C : Nat → Prop} {a : World} {p : Addr} {u : Value} (h : C p.block) : Fr C a (a.setCell p u) := ⟨rfl, rfl, rfl, by rw [World.size_setCell]; exact Nat.le_refl _, fun k _ hn => Below.heap_setCell _ _ _ _ (fun e => hn (e ▸ h))⟩
theorem Fr.imp {C D : Nat → Prop} {a b : World} (h : Fr C a b) (hi : ∀ k, k < a.heap.size → C k → D k) : Fr D a b := ⟨h.os, h.tape, h.output, h.size, fun k hk hn => h.block k hk (fun c => hn (hi k hk c))⟩
theorem own_fr {C : Nat → Prop} {w w' : World} {b : Nat} {t : TypeId} {z : Nat} {v : Value} {n : Nat} {xs : List Value} (h : w.ownsRow b t z v n xs) (hf : Fr C w w') (hc : ∀ k, v.ownBlock = some k → ¬ C k) : w'.ownsRow b t z v n xs := by
  refine ⟨h.1, ?_⟩
  rcases h.2 with hn | ⟨g, cap, cur, rfl, hb, hg, rest⟩
  · exact .inl hn
  · exact .inr ⟨g, cap, cur, rfl, hb, (hf.block g (Array.getElem?_eq_some_iff.1 hg).1 (hc g rfl)).trans hg, rest⟩
theorem Mk.fr {C : Nat → Prop} {off : Nat} {v : Value} {mark : Int} {w w' : World} (h : Mk off v mark w) (hf : Fr C w w') (hc : ∀ k, v.ownBlock = some k → ¬ C k) : Mk off v mark w' := by
  obtain ⟨ao, n, cap, e, hn, h1⟩ := h
  refine ⟨ao, n, cap, e, hn, h1.imp id ?_⟩
  rintro ⟨g, e2, h2, h3⟩
  exact ⟨g, e2, Nat.lt_of_lt_of_le h2 hf.size, fun k hk => (World.cell?_of_block (a := ⟨g, k * 2 + off, none⟩) (hf.block g h2 (hc g (by rw [e, e2]; rfl)))).trans (h3 k hk)⟩
/-- A list of points that is owned and holds marks alone. -/
theorem own_mk {w : World} {b : Nat} {t : TypeId} {v : Value} {n : Nat} {mark : Int} (h : w.ownsRow b t 2 v n (Qm.ptsV (List.replicate n (mark, 0)))) : Mk 0 v mark w := by
  have hm := own_max h
  rcases h.2 with ⟨rfl, rfl⟩ | ⟨g, cap, cur, rfl, hb, hg, _⟩
  · exact ⟨none, 0, 0, rfl, by omega, .inl rfl⟩
  · refine ⟨some ⟨g, 0, none⟩, n, cap, rfl, hm, .inr ⟨g, rfl, (Array.getElem?_eq_some_iff.1 hg).1, fun k hk => ?_⟩⟩
    have p := ptsV_at (List.replicate n (mark, 0)) k (by simpa using hk)
    have := h.cells (g := g) rfl _ _ p.1
    rw [add_zero_at] at this
    rw [Nat.add_zero, this]
    simp [List.getD_eq_getElem?_getD, hk]
/-- .. behind an append to the list that it may share its block with: the same marks are written. -/
theorem Mk.app {w w' : World} {v u : Value} {n m : Nat} {mark : Int} (h : Mk 0 u mark w) (hg : w.grownBy w' v.ownBlock)
    (hk : ∀ g j x, v.ownBlock = some g → w.cell? ⟨g, j, none⟩ = some x → w'.cell? ⟨g, j, none⟩ = some x ∨ ∃ q, j = n * 2 + q ∧ w'.cell? ⟨g, j, none⟩ = (Qm.ptsV (List.replicate m (mark, 0)))[q]? ∧ q < (Qm.ptsV (List.replicate m (mark, 0))).length) : Mk 0 u mark w' := by
  obtain ⟨ao, k, cap, e, hn, h1⟩ := h
  refine ⟨ao, k, cap, e, hn, h1.imp id ?_⟩
  rintro ⟨g, e2, h2, h3⟩
  refine ⟨g, e2, Nat.lt_of_lt_of_le h2 hg.size, fun j hj => ?_⟩
  by_cases ev : v.ownBlock = some g
  · rcases hk g (j * 2 + 0) _ ev (h3 j hj) with h4 | ⟨q, h4, h5, h6⟩
    · exact h4
    · rw [h5]
      rw [Qm.ptsV_len, List.length_replicate] at h6
      have p := ptsV_at (List.replicate m (mark, 0)) (q / 2) (by simp; omega)
      rw [show q = q / 2 * 2 from by omega, p.1]
      simp [List.getD_eq_getElem?_getD, show q / 2 < m from by omega]
  · exact (World.cell?_of_block (a := ⟨g, j * 2 + 0, none⟩) (hg.block g h2 (fun e => ev e.symm))).trans (h3 j hj)
end Go.Proofs.Ytljfiefobnncaaa

/- The book, owned; mine. -/
namespace Go.Proofs.Ytljfiefobnncaaa
open Go.RowKit
attribute [local go_sem ↓] Go.wp_at_zero Go.wp_at_succ

def Rec.all (r : Rec) : List Value := [r.l, r.g, r.h, r.i]
/-- The book, and that all that it holds lies apart. -/
structure OBook (kb N : Nat) (vp vs : Value) (P S : List Rec) (w : World) : Prop where
  lt : kb < w.heap.size
  c0 : w.cell? ⟨kb, 0, none⟩ = some (.int .i64 N)
  c1 : w.cell? ⟨kb, 1, none⟩ = some vp
  c2 : w.cell? ⟨kb, 2, none⟩ = some vs
  fz : ∀ j, w.frozen? ⟨kb, j, none⟩ = false
  po : w.ownsRow 0 71 5 vp P.length (recsV P)
  so : w.ownsRow 0 74 5 vs S.length (recsV S)
  mp : ∀ r ∈ P, MkR 0 r w
  ms : ∀ r ∈ S, MkR 1 r w
  a1 : vp.ownBlock ≠ some kb
  a2 : vs.ownBlock ≠ some kb
  a3 : ∀ k, vp.ownBlock = some k → vs.ownBlock ≠ some k
  far : ∀ r, r ∈ P ∨ r ∈ S → ∀ u ∈ r.all, ∀ k, u.ownBlock = some k → k ≠ kb ∧ vp.ownBlock ≠ some k ∧ vs.ownBlock ≠ some k
  old : ∀ r, r ∈ P ∨ r ∈ S → ∀ u ∈ r.all, ∀ k, u.ownBlock = some k → k < w.heap.size
  few : P.length + S.length ≤ N
theorem own_recs {w : World} {t : TypeId} {v : Value} {P : List Rec} {off : Nat} (h : w.ownsRow 0 t 5 v P.length (recsV P)) (hm : ∀ r ∈ P, MkR off r w) : RecsAt off v P w := by
  refine ⟨?_, hm⟩
  have hx := own_max h
  rcases h.2 with ⟨e, h0⟩ | ⟨g, cap, cur, e, hb, hg, _⟩
  · exact ⟨none, 0, by rw [e, h0], hx, .inl h0⟩
  · refine ⟨some ⟨g, 0, none⟩, cap, e, hx, .inr ⟨g, rfl, (Array.getElem?_eq_some_iff.1 hg).1, fun j u hu => ?_⟩⟩
    have := h.cells (g := g) (by rw [e]; rfl) j u hu
    rwa [add_zero_at] at this
theorem OBook.book {kb N : Nat} {vp vs : Value} {P S : List Rec} {w : World} (h : OBook kb N vp vs P S w) : BookAt kb N vp vs P S w := ⟨h.lt, h.c0, h.c1, h.c2, own_recs h.po h.mp, own_recs h.so h.ms⟩

theorem infoPts : (Try.prog.info? 71).map (fun i => (i.zero, i.size, i.bytes)) = some (some (.agg #[.slice none 0 0, .slice none 0 0, .slice none 0 0, .slice none 0 0, .int .i64 0]), 5, 104) := by kernel_rfl
theorem own_frozen {w : World} {b : Nat} {t : TypeId} {z g n cap : Nat} {xs : List Value} (h : w.ownsRow b t z (.slice (some ⟨g, 0, none⟩) n cap) n xs) (j : Nat) : w.frozen? ⟨g, j, none⟩ = false := by
  rcases h.2 with ⟨h1, _⟩ | ⟨g', cap', cur, h1, _, h2, _⟩
  · cases h1
  · injection h1 with h1 _ _; injection h1 with h1; injection h1 with h1 _ _
    subst h1
    simp [World.frozen?, h2]

/-- The book's own cells. -/
def KB (kb N : Nat) (vp vs : Value) (w : World) : Prop := kb < w.heap.size ∧ w.cell? ⟨kb, 0, none⟩ = some (.int .i64 N) ∧ w.cell? ⟨kb, 1, none⟩ = some vp ∧ w.cell? ⟨kb, 2, none⟩ = some vs ∧ ∀ j, w.frozen? ⟨kb, j, none⟩ = false
theorem KB.of {kb N : Nat} {vp vs : Value} {w w' : World} (h : KB kb N vp vs w) (hb : w'.heap[kb]? = w.heap[kb]?) (hz : w.heap.size ≤ w'.heap.size) : KB kb N vp vs w' :=
  ⟨Nat.lt_of_lt_of_le h.1 hz, (World.cell?_of_block (a := ⟨kb, 0, none⟩) hb).trans h.2.1, (World.cell?_of_block (a := ⟨kb, 1, none⟩) hb).trans h.2.2.1, (World.cell?_of_block (a := ⟨kb, 2, none⟩) hb).trans h.2.2.2.1, fun j => (World.frozen?_of_block (a := ⟨kb, j, none⟩) hb).trans (h.2.2.2.2 j)⟩
theorem KB.set0 {kb N : Nat} {vp vs : Value} {w : World} (h : KB kb N vp vs w) (M : Nat) : KB kb M vp vs (w.setCell ⟨kb, 0, none⟩ (.int .i64 M)) :=
  ⟨by rw [World.size_setCell]; exact h.1, World.cell?_setCell_same _ _ _ h.2.1, (World.cell?_setCell_other _ _ _ _ (by simp)).trans h.2.2.1, (World.cell?_setCell_other _ _ _ _ (by simp)).trans h.2.2.2.1, fun j => by simpa using h.2.2.2.2 j⟩
theorem KB.set1 {kb N : Nat} {vp vs : Value} {w : World} (h : KB kb N vp vs w) (v : Value) : KB kb N v vs (w.setCell ⟨kb, 1, none⟩ v) :=
  ⟨by rw [World.size_setCell]; exact h.1, (World.cell?_setCell_other _ _ _ _ (by simp)).trans h.2.1, World.cell?_setCell_same _ _ _ h.2.2.1, (World.cell?_setCell_other _ _ _ _ (by simp)).trans h.2.2.2.1, fun j => by simpa using h.2.2.2.2 j⟩
theorem KB.set2 {kb N : Nat} {vp vs : Value} {w : World} (h : KB kb N vp vs w) (v : Value) : KB kb N vp v (w.setCell ⟨kb, 2, none⟩ v) :=
  ⟨by rw [World.size_setCell]; exact h.1, (World.cell?_setCell_other _ _ _ _ (by simp)).trans h.2.1, (World.cell?_setCell_other _ _ _ _ (by simp)).trans h.2.2.1, World.cell?_setCell_same _ _ _ h.2.2.2.1, fun j => by simpa using h.2.2.2.2 j⟩
theorem KB.set {kb N : Nat} {vp vs : Value} {w : World} (h : KB kb N vp vs w) {g j : Nat} (v : Value) (hg : g ≠ kb) : KB kb N vp vs (w.setCell ⟨g, j, none⟩ v) := h.of (Below.heap_setCell _ _ _ _ (by dsimp; omega)) (by rw [World.size_setCell]; exact Nat.le_refl _)
theorem KB.gb {kb N : Nat} {vp vs : Value} {w w' : World} {r : Option Nat} (h : KB kb N vp vs w) (hg : w.grownBy w' r) (hr : r ≠ some kb) : KB kb N vp vs w' := h.of (hg.block kb h.1 (Ne.symm hr)) hg.size
theorem own_alloc {w : World} {b : Nat} {t : TypeId} {z : Nat} {v : Value} {n : Nat} {xs : List Value} (h : w.ownsRow b t z v n xs) (o : Obj) : (w.alloc o).ownsRow b t z v n xs := h.alloc o

theorem new_at (w : World) (g : Nat) (c : Array Value) (t : TypeId) (hg : g = w.heap.size) : ∀ j u, c.toList[j]? = some u → (w.alloc (.cells c t)).cell? ((⟨g, 0, none⟩ : Addr).add j) = some u := by
  subst hg
  intro j u hj
  rw [add_zero_at, World.cell?_alloc_new]
  simpa using hj
theorem marks_one (mk : Int) (k : Nat) : ∀ u ∈ Qm.ptsV (List.replicate k (mk, 0)), u.oneCell' = true := pts_one _
theorem marks_app (mk : Int) (n k : Nat) : Qm.ptsV (List.replicate (n + k) (mk, 0)) = Qm.ptsV (List.replicate n (mk, 0)) ++ Qm.ptsV (List.replicate k (mk, 0)) := by rw [← ptsV_app, List.replicate_append_replicate]

theorem recsV_snoc (P : List Rec) (r : Rec) : recsV (P ++ [r]) = recsV P ++ recV r := by simp [recsV]
theorem MkR.of {off : Nat} {r : Rec} {w : World} (h : ∀ u ∈ r.all, Mk off u r.mark w) : MkR off r w := ⟨h _ (by simp [Rec.all]), h _ (by simp [Rec.all]), h _ (by simp [Rec.all]), h _ (by simp [Rec.all])⟩
theorem MkR.get {off : Nat} {r : Rec} {w : World} (h : MkR off r w) : ∀ u ∈ r.all, Mk off u r.mark w := by
  intro u hu
  simp only [Rec.all, List.mem_cons, List.not_mem_nil, or_false] at hu
  rcases hu with rfl | rfl | rfl | rfl
  · exact h.1
  · exact h.2.1
  · exact h.2.2.1
  · exact h.2.2.2

theorem mine_done {kb N : Nat} {vp vs : Value} {P S : List Rec} {w w3 w4 : World} {gv gg capg : Nat} {r : Rec} {o : Obj} (HO : OBook kb N vp vs P S w) (b1 : gv ≠ kb) (b2 : vp.ownBlock ≠ some gv) (b3 : vs.ownBlock ≠ some gv) (b4 : ∀ r, r ∈ P ∨ r ∈ S → ∀ u ∈ r.all, u.ownBlock ≠ some gv) (gz : gv < w.heap.size)
    (F3 : Fr (fun k => k = kb ∨ k = gv) w w3) (M : ∀ u ∈ r.all, Mk 0 u r.mark w3) (B : ∀ u ∈ r.all, ∀ k, u.ownBlock = some k → (k = gv ∨ w.heap.size ≤ k) ∧ k < w3.heap.size)
    (O4 : w4.ownsRow 0 71 5 (.slice (some ⟨gg, 0, none⟩) (P.length + 1) capg) (P.length + 1) (recsV P ++ recV r)) (G4 : (w3.alloc o).drew.grownBy w4 vp.ownBlock) (A4 : vp.ownBlock = some gg ∨ gg = w3.heap.size + 1) (K4 : KB kb (N + 1) vp vs w4) :
    ∃ vp' r, OBook kb (N + 1) vp' vs (P ++ [r]) S (w4.setCell ⟨kb, 1, none⟩ (.slice (some ⟨gg, 0, none⟩) (P.length + 1) capg)) ∧ Fr (fun k => k = kb ∨ vp.ownBlock = some k ∨ k = gv) w (w4.setCell ⟨kb, 1, none⟩ (.slice (some ⟨gg, 0, none⟩) (P.length + 1) capg)) ∧
      (vp'.ownBlock = vp.ownBlock ∨ ∃ q, vp'.ownBlock = some q ∧ w.heap.size ≤ q) ∧ ∀ u ∈ r.all, ∀ k, u.ownBlock = some k → k = gv ∨ w.heap.size ≤ k := by
  have z3 := F3.size
  have z4 := G4.size
  simp at z4
  have vpl : ∀ k, vp.ownBlock = some k → k < w.heap.size := fun k hk => (HO.po.lt k hk).2
  have vsl : ∀ k, vs.ownBlock = some k → k < w.heap.size := fun k hk => (HO.so.lt k hk).2
  have kz := HO.lt
  have ggk : gg ≠ kb := by
    rcases A4 with h | h
    · intro e; subst e; exact HO.a1 h
    · omega
  have F34 : Fr (fun k => k = kb ∨ vp.ownBlock = some k) w3 (w4.setCell ⟨kb, 1, none⟩ (.slice (some ⟨gg, 0, none⟩) (P.length + 1) capg)) :=
    (Fr.below ((Below.refl _ _).alloc (Nat.le_refl _) o)).trans ((Fr.below (a := w3.alloc o) (b := (w3.alloc o).drew) ((Below.refl _ _).drew)).trans ((Fr.grown G4 (fun k hk _ => .inr hk)).trans (Fr.set (.inl rfl))))
  have FT : Fr (fun k => k = kb ∨ vp.ownBlock = some k ∨ k = gv) w (w4.setCell ⟨kb, 1, none⟩ (.slice (some ⟨gg, 0, none⟩) (P.length + 1) capg)) :=
    (F3.imp (fun k _ h => h.elim .inl (fun h => .inr (.inr h)))).trans (F34.imp (fun k _ h => h.elim .inl (fun h => .inr (.inl h))))
  have KF := KB.set1 K4 (.slice (some ⟨gg, 0, none⟩) (P.length + 1) capg)
  have oldC : ∀ r, r ∈ P ∨ r ∈ S → ∀ u ∈ r.all, ∀ k, u.ownBlock = some k → ¬ (k = kb ∨ vp.ownBlock = some k ∨ k = gv) := fun r hr u hu k hk hc => by
    have h := HO.far r hr u hu k hk
    rcases hc with hc | hc | hc
    · exact h.1 hc
    · exact h.2.1 hc
    · subst hc; exact b4 r hr u hu hk
  refine ⟨.slice (some ⟨gg, 0, none⟩) (P.length + 1) capg, r, ⟨KF.1, KF.2.1, KF.2.2.1, KF.2.2.2.1, KF.2.2.2.2, ?_, ?_, ?_, ?_, ?_, HO.a2, ?_, ?_, ?_, ?_⟩, FT, ?_, fun u hu k hk => (B u hu k hk).1⟩
  · rw [recsV_snoc, List.length_append]
    exact own_fr (C := fun k => k = kb) O4 (Fr.set rfl) (fun k hk => by simp [Value.ownBlock] at hk; omega)
  · refine own_fr HO.so FT fun k hk hc => ?_
    rcases hc with hc | hc | hc
    · subst hc; exact HO.a2 hk
    · exact HO.a3 k hc hk
    · subst hc; exact b3 hk
  · intro q hq
    rcases List.mem_append.1 hq with hq | hq
    · exact MkR.of fun u hu => ((HO.mp q hq).get u hu).fr FT (oldC q (.inl hq) u hu)
    · rw [List.mem_singleton] at hq; subst hq
      refine MkR.of fun u hu => (M u hu).fr F34 fun k hk hc => ?_
      have h := (B u hu k hk).1
      rcases hc with hc | hc
      · rcases h with h | h
        · omega
        · omega
      · rcases h with h | h
        · subst h; exact b2 hc
        · have := vpl k hc; omega
  · intro q hq
    exact MkR.of fun u hu => ((HO.ms q hq).get u hu).fr FT (oldC q (.inr hq) u hu)
  · intro e; simp [Value.ownBlock] at e; omega
  · intro k hk hv
    simp only [Value.ownBlock, Option.some.injEq] at hk
    subst hk
    rcases A4 with h | h
    · exact HO.a3 _ h hv
    · have := vsl _ hv; omega
  · intro q hq u hu k hk
    have new : q = r → k ≠ kb ∧ (Value.slice (some ⟨gg, 0, none⟩) (P.length + 1) capg).ownBlock ≠ some k ∧ vs.ownBlock ≠ some k := fun e => by
      subst e
      obtain ⟨h, h2⟩ := B u hu k hk
      refine ⟨by rcases h with h | h <;> omega, fun e => ?_, fun e => ?_⟩
      · simp only [Value.ownBlock, Option.some.injEq] at e
        subst e
        rcases A4 with h3 | h3
        · rcases h with h | h
          · subst h; exact b2 h3
          · have := vpl _ h3; omega
        · omega
      · rcases h with h | h
        · subst h; exact b3 e
        · have := vsl _ e; omega
    have old : q ∈ P ∨ q ∈ S → k ≠ kb ∧ (Value.slice (some ⟨gg, 0, none⟩) (P.length + 1) capg).ownBlock ≠ some k ∧ vs.ownBlock ≠ some k := fun hq => by
      have h := HO.far q hq u hu k hk
      have hl := HO.old q hq u hu k hk
      refine ⟨h.1, fun e => ?_, h.2.2⟩
      simp only [Value.ownBlock, Option.some.injEq] at e
      subst e
      rcases A4 with h3 | h3
      · exact h.2.1 h3
      · omega
    rcases hq with hq | hq
    · rcases List.mem_append.1 hq with hq | hq
      · exact old (.inl hq)
      · exact new (List.mem_singleton.1 hq)
    · exact old (.inr hq)
  · intro q hq u hu k hk
    have zf := FT.size
    have zg := F34.size
    rcases hq with hq | hq
    · rcases List.mem_append.1 hq with hq | hq
      · have := HO.old q (.inl hq) u hu k hk; omega
      · have e := List.mem_singleton.1 hq; subst e; have := (B u hu k hk).2; omega
    · have := HO.old q (.inr hq) u hu k hk; omega
  · have := HO.few; simp; omega
  · rcases A4 with h | h
    · left; rw [h]; rfl
    · right; exact ⟨gg, rfl, by omega⟩

end Go.Proofs.Ytljfiefobnncaaa
