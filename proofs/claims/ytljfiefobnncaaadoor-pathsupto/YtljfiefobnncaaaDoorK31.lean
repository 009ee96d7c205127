import Derived.Test.YtljfiefobnncaaaDoorK30

/- outlinelaw: looks. -/
namespace Go.Proofs.YtljfiefobnncaaaDoor
open Go.RowKit

set_option maxRecDepth 4000 in
set_option maxHeartbeats 1000000 in
theorem looks_any (kb : Nat) (N : Int) (vp vs : Value) (P S : List Rec) (w : World) (h : BookAt kb N vp vs P S w) :
    Calls Tryd.prog 15 #[.pointer (some ⟨kb, 0, none⟩)] w fun e w' => e = .returned (.bool true) ∧ Below w.heap.size w w' := by
  obtain ⟨ap, cp, rfl, hnp, hp⟩ := h.p.1
  obtain ⟨asl, cs, rfl, hns, hs⟩ := h.s.1
  have HB := hid h
  obtain ⟨np, enp⟩ : ∃ np, np = P.length := ⟨_, rfl⟩
  obtain ⟨ns, ens⟩ : ∃ ns, ns = S.length := ⟨_, rfl⟩
  rw [← enp, ← ens] at HB
  rw [← enp] at hnp hp
  rw [← ens] at hns hs
  have HNp := hid enp
  have HNs := hid ens
  have HP := hid hp
  have HS := hid hs
  have BL0 := hid (Below.refl w.heap.size w)
  have c0 := HB.out.c0
  have c1 := HB.out.c1
  have c2 := HB.out.c2
  have kz0 := HB.out.lt
  clear h enp ens hp hs
  go_enter Tryd.func15, Tryd.ntmps15
  go_wp2
  go_loopw [3, 4] (fun ok iv wr => ∃ i : Nat, i ≤ np ∧ ok = .bool true ∧ iv = .int .i64 i ∧ Below w.heap.size w wr) (fun _ i _ => np - (intOf i).toNat)
  case atStart => exact ⟨0, by omega, rfl, rfl, BL0.out⟩
  case round =>
    clear c0 c1 c2 kz0 BL0
    obtain ⟨i, hin, rfl, rfl, hbl⟩ := hrel
    have BK := hid (HB.out.call hbl)
    have BL := hid hbl
    have c0 := BK.out.c0
    have c1 := BK.out.c1
    have c2 := BK.out.c2
    clear hbl
    by_cases hlt : i < np
    · obtain ⟨g, rfl, hg, hc⟩ := HP.out.resolve_left (by omega)
      have hiP : i < P.length := by have := HNp.out; omega
      obtain ⟨r, hr⟩ : ∃ r, r = P.getD i rec0 := ⟨_, rfl⟩
      have hmem : r ∈ P := by rw [hr, List.getD_eq_getElem?_getD, List.getElem?_eq_getElem hiP]; exact List.getElem_mem hiP
      have mk := BK.out.p.2 r hmem
      have rv := recsV_at P i hiP
      rw [← hr] at rv
      obtain ⟨rl, rg, rh, ri, mark⟩ := r
      obtain ⟨a1, n1, k1, rfl⟩ := mk.1.slice
      obtain ⟨a2, n2, k2, rfl⟩ := mk.2.1.slice
      obtain ⟨a3, n3, k3, rfl⟩ := mk.2.2.1.slice
      obtain ⟨a4, n4, k4, rfl⟩ := mk.2.2.2.slice
      dsimp only at rv
      have r0 := (BL.out.cell (p := ⟨g, i * 5, none⟩) hg).trans (hc _ _ rv.1)
      have r1 := (BL.out.cell (p := ⟨g, i * 5 + 1, none⟩) hg).trans (hc _ _ rv.2.1)
      have r2 := (BL.out.cell (p := ⟨g, i * 5 + 2, none⟩) hg).trans (hc _ _ rv.2.2.1)
      have r3 := (BL.out.cell (p := ⟨g, i * 5 + 3, none⟩) hg).trans (hc _ _ rv.2.2.2.1)
      have r4 := (BL.out.cell (p := ⟨g, i * 5 + 4, none⟩) hg).trans (hc _ _ rv.2.2.2.2)
      have MKH := hid mk
      have i0' : (0 : Int) ≤ (i : Nat) := by omega
      have i1' : ((i : Nat) : Int) < (np : Nat) := by omega
      have gz : g < wr.heap.size := Nat.lt_of_lt_of_le hg BL.out.size
      have kz : kb < wr.heap.size := BK.out.lt
      have wz := BL.out.size
      clear rv hr hmem mk hc
      go_wp2_with fail
      refine (marked_any _ mark _ (MKH.out.1.call ((Below.refl _ _).alloc (Nat.le_refl _) _))).mono ?_
      rintro e w1 ⟨rfl, rfl⟩
      go_wp2_with fail
      refine (marked_any _ mark _ (MKH.out.2.1.call ((Below.refl _ _).alloc (Nat.le_refl _) _))).mono ?_
      rintro e w1 ⟨rfl, rfl⟩
      go_wp2_with fail
      refine (marked_any _ mark _ (MKH.out.2.2.1.call ((Below.refl _ _).alloc (Nat.le_refl _) _))).mono ?_
      rintro e w1 ⟨rfl, rfl⟩
      go_wp2_with fail
      refine (marked_any _ mark _ (MKH.out.2.2.2.call ((Below.refl _ _).alloc (Nat.le_refl _) _))).mono ?_
      rintro e w1 ⟨rfl, rfl⟩
      go_wp2
      go_roundw
      case rel => exact ⟨i + 1, by omega, rfl, by go_num, BL.out.alloc wz _⟩
      case measure => simp [intOf]; omega
    · have hk' : ((np : Nat) : Int) ≤ (i : Nat) := by omega
      have kz0 := BK.out.lt
      have BL0 := BL
      go_wp2
      go_loopw [3, 10] (fun ok iv wr => ∃ i : Nat, i ≤ ns ∧ ok = .bool true ∧ iv = .int .i64 i ∧ Below w.heap.size w wr) (fun _ i _ => ns - (intOf i).toNat)
      case atStart => exact ⟨0, by omega, rfl, rfl, BL0.out⟩
      case round =>
        clear c0 c1 c2 kz0 BL0 BK BL hin hlt hk'
        obtain ⟨i, hin, rfl, rfl, hbl⟩ := hrel
        have BK := hid (HB.out.call hbl)
        have BL := hid hbl
        have c0 := BK.out.c0
        have c1 := BK.out.c1
        have c2 := BK.out.c2
        clear hbl
        by_cases hlt : i < ns
        · obtain ⟨g, rfl, hg, hc⟩ := HS.out.resolve_left (by omega)
          have hiP : i < S.length := by have := HNs.out; omega
          obtain ⟨r, hr⟩ : ∃ r, r = S.getD i rec0 := ⟨_, rfl⟩
          have hmem : r ∈ S := by rw [hr, List.getD_eq_getElem?_getD, List.getElem?_eq_getElem hiP]; exact List.getElem_mem hiP
          have mk := BK.out.s.2 r hmem
          have rv := recsV_at S i hiP
          rw [← hr] at rv
          obtain ⟨rl, rg, rh, ri, mark⟩ := r
          obtain ⟨a1, n1, k1, rfl⟩ := mk.1.slice
          obtain ⟨a2, n2, k2, rfl⟩ := mk.2.1.slice
          obtain ⟨a3, n3, k3, rfl⟩ := mk.2.2.1.slice
          obtain ⟨a4, n4, k4, rfl⟩ := mk.2.2.2.slice
          dsimp only at rv
          have r0 := (BL.out.cell (p := ⟨g, i * 5, none⟩) hg).trans (hc _ _ rv.1)
          have r1 := (BL.out.cell (p := ⟨g, i * 5 + 1, none⟩) hg).trans (hc _ _ rv.2.1)
          have r2 := (BL.out.cell (p := ⟨g, i * 5 + 2, none⟩) hg).trans (hc _ _ rv.2.2.1)
          have r3 := (BL.out.cell (p := ⟨g, i * 5 + 3, none⟩) hg).trans (hc _ _ rv.2.2.2.1)
          have r4 := (BL.out.cell (p := ⟨g, i * 5 + 4, none⟩) hg).trans (hc _ _ rv.2.2.2.2)
          have MKH := hid mk
          have i0' : (0 : Int) ≤ (i : Nat) := by omega
          have i1' : ((i : Nat) : Int) < (ns : Nat) := by omega
          have gz : g < wr.heap.size := Nat.lt_of_lt_of_le hg BL.out.size
          have kz : kb < wr.heap.size := BK.out.lt
          have wz := BL.out.size
          clear rv hr hmem mk hc
          go_wp2_with fail
          refine (shaped_any _ mark _ (MKH.out.1.call ((Below.refl _ _).alloc (Nat.le_refl _) _))).mono ?_
          rintro e w1 ⟨rfl, rfl⟩
          go_wp2_with fail
          refine (shaped_any _ mark _ (MKH.out.2.1.call ((Below.refl _ _).alloc (Nat.le_refl _) _))).mono ?_
          rintro e w1 ⟨rfl, rfl⟩
          go_wp2_with fail
          refine (shaped_any _ mark _ (MKH.out.2.2.1.call ((Below.refl _ _).alloc (Nat.le_refl _) _))).mono ?_
          rintro e w1 ⟨rfl, rfl⟩
          go_wp2_with fail
          refine (shaped_any _ mark _ (MKH.out.2.2.2.call ((Below.refl _ _).alloc (Nat.le_refl _) _))).mono ?_
          rintro e w1 ⟨rfl, rfl⟩
          go_wp2
          go_roundw
          case rel => exact ⟨i + 1, by omega, rfl, by go_num, BL.out.alloc wz _⟩
          case measure => simp [intOf]; omega
        · have hk' : ((ns : Nat) : Int) ≤ (i : Nat) := by omega
          go_wp2
          go_ret
          exact ⟨rfl, BL.out⟩
end Go.Proofs.YtljfiefobnncaaaDoor

/- append, and what becomes of the list that was appended to: it stays, and only what is new is written behind it. -/
namespace Go.Proofs.YtljfiefobnncaaaDoor
open Go.RowKit

theorem run_append_keeps {P : Program} (w : World) (base : Nat) (t ty e : TypeId) (i : TypeInfo) (z : Value) (size bytes : Nat) (ht : P.underlying t = some (.slice e)) (hi : P.info? e = some i) (hz : i.zero = some z)
    (hsize : i.size = size) (hby : i.bytes = bytes) (hzs : z.cells.size = size) (hsz : 0 < size)
    (v : Value) (n : Nat) (xs : List Value) (hown : w.ownsRow base e size v n xs)
    (a : Addr) (m c : Nat) (news : List Value) (hl : news.length = m * size) (hnews : ∀ j u, news[j]? = some u → w.cell? (a.add j) = some u) (h1 : ∀ u ∈ news, u.oneCell' = true)
    (h63 : n + m ≤ maxLen) (hbytes : (n + m) * bytes ≤ 140737488355328) (hbase : base ≤ w.heap.size) :
    ∃ v' w', (Builtin.append_ #[t, t] ty #[v, .slice (some a) m c]).run P w = .ok v' w' ∧ w'.ownsRow base e size v' (n + m) (xs ++ news) ∧ w.grownBy w' v.ownBlock ∧ (v'.ownBlock = v.ownBlock ∨ v'.ownBlock = some w.heap.size) ∧
      w'.ownsRow base e size v n xs ∧ (∀ g j u, v.ownBlock = some g → w.cell? ⟨g, j, none⟩ = some u → w'.cell? ⟨g, j, none⟩ = some u ∨ ∃ q, j = n * size + q ∧ w'.cell? ⟨g, j, none⟩ = news[q]? ∧ q < news.length) := by
  obtain ⟨v', w', hr, h2, h3, _, h5⟩ := run_append_own_at (P := P) w base t ty e i z size bytes ht hi hz hsize hby hzs hsz v n xs hown a m c news hl hnews h1 h63 hbytes hbase
  refine ⟨v', w', hr, h2, h3, h5, ?_⟩
  rcases hown.2 with ⟨rfl, rfl⟩ | ⟨g, cap, cur, rfl, hbg, hg, hnc, hcm, hcs, htake⟩
  · refine ⟨⟨by simpa using hown.1, .inl ⟨rfl, rfl⟩⟩, fun g j u hg => by simp [Value.ownBlock] at hg⟩
  · subst hsize
    by_cases hroom : n + m ≤ cap
    · have hfit : n * i.size + news.length ≤ cur.size := by rw [hl, hcs, ← Nat.add_mul]; exact Nat.mul_le_mul_right _ hroom
      have hr2 := run_append_room (P := P) w t ty e i ht hi g n cap cur hg a m c news hl hnews h1 hroom hfit
      rw [hr2] at hr
      injection hr with e1 e2
      subst e2
      obtain ⟨A, hA⟩ : ∃ A, A = n * i.size := ⟨_, rfl⟩
      rw [← hA] at hfit htake ⊢
      have hh := setRow_heap w g cur (cur.toList.take A ++ news ++ cur.toList.drop (A + news.length)).toArray e _ hg
      have ca : ∀ j, (w.setRow g (cur.toList.take A ++ news ++ cur.toList.drop (A + news.length)).toArray).cell? ⟨g, j, none⟩ = (cur.toList.take A ++ news ++ cur.toList.drop (A + news.length))[j]? := fun j => by
        simp only [World.cell?, hh]; simp
      have cb : ∀ j, w.cell? ⟨g, j, none⟩ = cur[j]? := fun j => by simp only [World.cell?, hg]; simp
      refine ⟨⟨hown.1, .inr ⟨g, cap, _, rfl, hbg, hh, hnc, hcm, ?_, ?_⟩⟩, fun g' j u hg' hu => ?_⟩
      · simp only [List.size_toArray, List.length_append, List.length_take, List.length_drop, Array.length_toList]
        omega
      · rw [← hA, List.append_assoc, List.take_append_of_le_length (by simp; omega)]
        simp only [List.take_take, Nat.min_self]
        exact htake
      · simp only [Value.ownBlock, Option.some.injEq] at hg'
        subst hg'
        rw [ca]
        rw [cb] at hu
        have hj : j < cur.size := (Array.getElem?_eq_some_iff.1 hu).1
        by_cases h6 : j < A
        · left
          rw [List.append_assoc, List.getElem?_append_left (by simp; omega), List.getElem?_take, if_pos h6]
          simpa using hu
        · by_cases h7 : j < A + news.length
          · right
            refine ⟨j - A, by omega, ?_, by omega⟩
            rw [List.append_assoc, List.getElem?_append_right (by simp; omega), List.getElem?_append_left (by simp; omega)]
            congr 1
            simp; omega
          · left
            rw [List.getElem?_append_right (by simp; omega), List.getElem?_drop]
            have e9 : A + news.length + (j - (cur.toList.take A ++ news).length) = j := by simp; omega
            rw [e9]
            simpa using hu
    · have holds : ∀ j u, xs[j]? = some u → w.cell? ((⟨g, 0, none⟩ : Addr).add j) = some u := hown.cells (g := g) rfl
      have hr2 := run_append_grow (P := P) w t ty e i z ht hi hz ⟨g, 0, none⟩ n cap xs hown.1 holds a m c news hl hnews (by omega) (by simp only [maxLen] at h63; omega) (growslice_fits (by omega) (by rw [hby]; exact hbytes))
      rw [hr2] at hr
      injection hr with e1 e2
      subst e2
      have hlt := (Array.getElem?_eq_some_iff.1 hg).1
      refine ⟨⟨hown.1, .inr ⟨g, cap, cur, rfl, hbg, ?_, hnc, hcm, hcs, htake⟩⟩, fun g' j u hg' hu => .inl ?_⟩
      · exact (Below.heap_alloc _ _ _ hlt).trans hg
      · simp only [Value.ownBlock, Option.some.injEq] at hg'
        subst hg'
        rw [← hu]
        exact World.cell?_of_block (a := ⟨g, j, none⟩) (Below.heap_alloc _ _ _ hlt)

/-- At the operation, for the walk. -/
theorem wpList_append_keeps {P : Program} {w : World} {ops : Array Oper} {rest : List Oper} {o : Oper} {a : Act} {Q : Exit → Act → World → Prop} (hgd : o.guard = none) (s x : Operand) (t : TypeId)
    (ho : o.op = .call { callee := .builtin .append, args := #[s, x], argTypes := #[t, t] })
    (base : Nat) (e : TypeId) (i : TypeInfo) (z : Value) (size bytes : Nat) (ht : P.underlying t = some (.slice e)) (hi : P.info? e = some i) (hz : i.zero = some z)
    (hsize : i.size = size) (hby : i.bytes = bytes) (hzs : z.cells.size = size) (hsz : 0 < size)
    (v : Value) (n : Nat) (xs : List Value) (hs : a.eval s = v) (hown : w.ownsRow base e size v n xs)
    (ad : Addr) (m c : Nat) (news : List Value) (hx : a.eval x = .slice (some ad) m c) (hl : news.length = m * size) (hnews : ∀ j u, news[j]? = some u → w.cell? (ad.add j) = some u) (h1 : ∀ u ∈ news, u.oneCell' = true)
    (h63 : n + m ≤ maxLen) (hbytes : (n + m) * bytes ≤ 140737488355328) (hbase : base ≤ w.heap.size)
    (h : ∀ v' w', Hid (w'.ownsRow base e size v' (n + m) (xs ++ news)) → Hid (w.grownBy w' v.ownBlock) → Hid (v'.ownBlock = v.ownBlock ∨ v'.ownBlock = some w.heap.size) → Hid (w'.ownsRow base e size v n xs) →
      Hid (∀ g j u, v.ownBlock = some g → w.cell? ⟨g, j, none⟩ = some u → w'.cell? ⟨g, j, none⟩ = some u ∨ ∃ q, j = n * size + q ∧ w'.cell? ⟨g, j, none⟩ = news[q]? ∧ q < news.length) → wpList P ops Q rest (a.put o.dst v') w') :
    wpList P ops Q (o :: rest) a w := by
  refine wpList_plain hgd fun K hK => ?_
  obtain ⟨v', w', hr, h2, h3, h4, h5, h6⟩ := run_append_keeps (P := P) w base t o.type e i z size bytes ht hi hz hsize hby hzs hsz v n xs hown ad m c news hl hnews h1 h63 hbytes hbase
  unfold Oper.wp execOp
  simp only [ho, resolve, invoke, builtin, Sem.run_bind, Sem.run_pure, Result.andThen_ok, List.map_toArray, List.map_cons, List.map_nil, hs, hx, hr]
  exact hK _ _ (h v' w' h2 h3 h4 h5 h6)
end Go.Proofs.YtljfiefobnncaaaDoor
