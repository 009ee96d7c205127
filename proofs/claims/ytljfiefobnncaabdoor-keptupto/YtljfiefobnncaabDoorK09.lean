import Derived.Test.YtljfiefobnncaabDoorK08
import Derived.Test.YtljfiefobnncaabDoorK02
import Derived.Test.YtljfiefobnncaabDoorK07
import Derived.Test.YtljfiefobnncaabDoorK06
import Derived.Deep.MidRow
import Derived.Deep.Upon
import Derived.OwnWalk

/- outlinekeep.shapes: raw numbers with their bounds; a list of shapes and the shape that is being built. -/
namespace Go.Proofs.YtljfiefobnncaabDoor
open Go.RowKit

/-- Raw numbers to be read, each of 64 bits. -/
def RawB (ao : Option Addr) (len : Nat) (w : World) : Prop :=
  len = 0 ∨ ∃ b off, ao = some ⟨b, off, none⟩ ∧ b < w.heap.size ∧ ∀ j, j < len → ∃ z, w.cell? ⟨b, off + j, none⟩ = some (.int .i64 z) ∧ -9223372036854775808 ≤ z ∧ z ≤ 9223372036854775807
theorem RawB.on {ao : Option Addr} {len : Nat} {w w' : World} (h : RawB ao len w) (hb : Below w.heap.size w w') : RawB ao len w' := by
  rcases h with h | ⟨b, off, e, hl, hc⟩
  · exact .inl h
  · refine .inr ⟨b, off, e, Nat.lt_of_lt_of_le hl hb.size, fun j hj => ?_⟩
    obtain ⟨z, hz, h1, h2⟩ := hc j hj
    exact ⟨z, (hb.cell (p := ⟨b, off + j, none⟩) hl).trans hz, h1, h2⟩

/-- A box of two cells. -/
def BoxT (b : Nat) (x y : Value) (w : World) : Prop := b < w.heap.size ∧ w.cell? ⟨b, 0, none⟩ = some x ∧ w.cell? ⟨b, 1, none⟩ = some y ∧ w.frozen? ⟨b, 0, none⟩ = false ∧ w.frozen? ⟨b, 1, none⟩ = false
theorem BoxT.new (w : World) (x y : Value) (t : TypeId) : BoxT w.heap.size x y (w.alloc (.cells #[x, y] t)) := ⟨by simp, by simp, by simp, by simp, by simp⟩
theorem BoxT.on {b B : Nat} {x y : Value} {w w' : World} (h : BoxT b x y w) (hb : Below B w w') (hB : b < B) : BoxT b x y w' :=
  ⟨Nat.lt_of_lt_of_le h.1 hb.size, (hb.cell (p := ⟨b, 0, none⟩) hB).trans h.2.1, (hb.cell (p := ⟨b, 1, none⟩) hB).trans h.2.2.1, (hb.frozen (p := ⟨b, 0, none⟩) hB).trans h.2.2.2.1, (hb.frozen (p := ⟨b, 1, none⟩) hB).trans h.2.2.2.2⟩
theorem BoxT.gb {b : Nat} {x y : Value} {w w' : World} {r : Option Nat} (h : BoxT b x y w) (hb : w.grownBy w' r) (hne : r ≠ some b) : BoxT b x y w' := by
  have e := hb.block b h.1 (Ne.symm hne)
  have C : ∀ j, w'.cell? ⟨b, j, none⟩ = w.cell? ⟨b, j, none⟩ := fun j => World.cell?_of_block (a := ⟨b, j, none⟩) e
  exact ⟨Nat.lt_of_lt_of_le h.1 hb.size, (C _).trans h.2.1, (C _).trans h.2.2.1, by have := h.2.2.2.1; unfold World.frozen? at this ⊢; rw [e]; exact this, by have := h.2.2.2.2; unfold World.frozen? at this ⊢; rw [e]; exact this⟩
theorem BoxT.set0 {b : Nat} {x y : Value} {w : World} (h : BoxT b x y w) (u : Value) : BoxT b u y (w.setCell ⟨b, 0, none⟩ u) :=
  ⟨by rw [World.size_setCell]; exact h.1, World.cell?_setCell_same _ _ _ h.2.1, (World.cell?_setCell_other _ _ _ _ (by simp)).trans h.2.2.1, by simpa using h.2.2.2.1, by simpa using h.2.2.2.2⟩
theorem BoxT.set1 {b : Nat} {x y : Value} {w : World} (h : BoxT b x y w) (u : Value) : BoxT b x u (w.setCell ⟨b, 1, none⟩ u) :=
  ⟨by rw [World.size_setCell]; exact h.1, (World.cell?_setCell_other _ _ _ _ (by simp)).trans h.2.1, World.cell?_setCell_same _ _ _ h.2.2.1, by simpa using h.2.2.2.1, by simpa using h.2.2.2.2⟩

theorem ap_symm {a c : Option Nat} (h : a = none ∨ a ≠ c) : c = none ∨ c ≠ a := by
  rcases h with h | h
  · cases c with
    | none => exact .inl rfl
    | some k => right; rw [h]; simp
  · exact .inr (Ne.symm h)
theorem RowP.keptP {b : Nat} {vl : Value} {L : List (Value × List (Int × Int))} {w w' : World} {r : Option Nat} (h : RowP b vl L w) (g : w.grownBy w' r) (h1 : vl.ownBlock = none ∨ vl.ownBlock ≠ r) (h2 : ∀ p ∈ L, p.1.ownBlock = none ∨ p.1.ownBlock ≠ r) : RowP b vl L w' :=
  ⟨h.row.kept g h1, fun p hp => (h.pts p hp).kept g (h2 p hp), h.apart⟩
/-- The shapes that are there, and the points of the one that is being built. -/
structure Pnd (b : Nat) (vl v : Value) (L : List (Value × List (Int × Int))) (cur : List (Int × Int)) (w : World) : Prop where
  row : RowP b vl L w
  own : w.ownsRow b 46 2 v cur.length (Qm.ptsV cur)
  ap1 : v.ownBlock = none ∨ v.ownBlock ≠ vl.ownBlock
  ap2 : ∀ p ∈ L, v.ownBlock = none ∨ v.ownBlock ≠ p.1.ownBlock
theorem Pnd.fresh {b : Nat} {vl : Value} {L : List (Value × List (Int × Int))} {w : World} (h : RowP b vl L w) : Pnd b vl (.slice none 0 0) L [] w :=
  ⟨h, World.ownsRow_nil _ _ _ _, .inl rfl, fun _ _ => .inl rfl⟩
theorem Pnd.on {b : Nat} {vl v : Value} {L : List (Value × List (Int × Int))} {cur : List (Int × Int)} {w w' : World} (h : Pnd b vl v L cur w) (hb : Below w.heap.size w w') : Pnd b vl v L cur w' :=
  ⟨h.row.on hb, own_below h.own hb, h.ap1, h.ap2⟩
theorem RowP.setP {b : Nat} {vl : Value} {L : List (Value × List (Int × Int))} {w : World} (h : RowP b vl L w) {a : Addr} (ha : a.block < b) (u : Value) : RowP b vl L (w.setCell a u) :=
  ⟨own_keep h.row ha (set_grown (Below.refl _ _) a), fun p hp => own_keep (h.pts p hp) ha (set_grown (Below.refl _ _) a), h.apart⟩
theorem Pnd.set {b : Nat} {vl v : Value} {L : List (Value × List (Int × Int))} {cur : List (Int × Int)} {w : World} (h : Pnd b vl v L cur w) {a : Addr} (ha : a.block < b) (u : Value) : Pnd b vl v L cur (w.setCell a u) :=
  ⟨h.row.setP ha u, own_keep h.own ha (set_grown (Below.refl _ _) a), h.ap1, h.ap2⟩
theorem RowP.ltL {b : Nat} {vl : Value} {L : List (Value × List (Int × Int))} {w : World} (h : RowP b vl L w) : vl.ownBlock ≠ some w.heap.size ∧ ∀ p ∈ L, p.1.ownBlock ≠ some w.heap.size :=
  ⟨fun e => by have := (h.row.lt _ e).2; omega, fun p hp e => by have := ((h.pts p hp).lt _ e).2; omega⟩
theorem Pnd.pt {b : Nat} {vl v v' : Value} {L : List (Value × List (Int × Int))} {cur : List (Int × Int)} {w w' : World} {x y : Int} (h : Pnd b vl v L cur w) (o : w'.ownsRow b 46 2 v' (cur.length + 1) (Qm.ptsV cur ++ [.int .i64 x, .int .i64 y])) (g : w.grownBy w' v.ownBlock) (e : v'.ownBlock = v.ownBlock ∨ v'.ownBlock = some w.heap.size) :
    Pnd b vl v' L (cur ++ [(x, y)]) w' := by
  have lt := h.row.ltL
  refine ⟨h.row.keptP g (ap_symm h.ap1) (fun p hp => ap_symm (h.ap2 p hp)), by rw [Qm.ptsV_snoc, List.length_append]; exact o, ?_, fun p hp => ?_⟩
  · rcases e with e | e
    · rw [e]; exact h.ap1
    · rw [e]; exact .inr (Ne.symm lt.1)
  · rcases e with e | e
    · rw [e]; exact h.ap2 p hp
    · rw [e]; exact .inr (Ne.symm (lt.2 p hp))
theorem Pnd.shape {b : Nat} {vl vl' v : Value} {L : List (Value × List (Int × Int))} {cur : List (Int × Int)} {w w' : World} (h : Pnd b vl v L cur w) (o : w'.ownsRow b 42 2 vl' (L.length + 1) (shpP L ++ [v, .int .i64 (Qm.twiceOf cur)])) (g : w.grownBy w' vl.ownBlock) (e : vl'.ownBlock = vl.ownBlock ∨ vl'.ownBlock = some w.heap.size) :
    RowP b vl' (L ++ [(v, cur)]) w' := by
  have lt := h.row.ltL
  have vlt : v.ownBlock ≠ some w.heap.size := fun e => by have := (h.own.lt _ e).2; omega
  have ap := List.pairwise_cons.1 h.row.apart
  have pn : ∀ p ∈ L, p.1.ownBlock = none ∨ p.1.ownBlock ≠ vl.ownBlock := fun p hp => ap_symm (ap.1 p.1 (List.mem_map_of_mem hp))
  refine ⟨by rw [shpP_snoc, List.length_append]; exact o, fun p hp => ?_, ?_⟩
  · rcases List.mem_append.1 hp with hp | hp
    · exact (h.row.pts p hp).kept g (pn p hp)
    · rw [List.mem_singleton] at hp; subst hp
      exact h.own.kept g h.ap1
  · rw [List.map_append]
    refine List.pairwise_cons.2 ⟨fun a ha => ?_, List.pairwise_append.2 ⟨ap.2, by simp, fun a ha c hc => ?_⟩⟩
    · rcases List.mem_append.1 ha with ha | ha
      · obtain ⟨p, hp, rfl⟩ := List.mem_map.1 ha
        rcases e with e | e
        · rw [e]; exact ap_symm (pn p hp)
        · rw [e]; exact .inr (Ne.symm (lt.2 p hp))
      · simp only [List.map_cons, List.map_nil, List.mem_singleton] at ha
        subst ha
        rcases e with e | e
        · rw [e]; exact ap_symm h.ap1
        · rw [e]; exact .inr (Ne.symm vlt)
    · obtain ⟨p, hp, rfl⟩ := List.mem_map.1 ha
      simp only [List.map_cons, List.map_nil, List.mem_singleton] at hc
      subst hc
      exact ap_symm (h.ap2 p hp)
/-- All points of the shapes. -/
def ptN (L : List (Value × List (Int × Int))) : Nat := (L.map fun p => p.2.length).sum
theorem ptN_snoc (L : List (Value × List (Int × Int))) (p : Value × List (Int × Int)) : ptN (L ++ [p]) = ptN L + p.2.length := by simp [ptN]
/-- What holds in the loop of shapes. -/
structure SIk (b i : Nat) (vl v : Value) (L : List (Value × List (Int × Int))) (cur : List (Int × Int)) (w wr : World) : Prop where
  pnd : Pnd (b + 1) vl v L cur wr
  box : BoxT b v (.int .i64 0) wr
  few : L.length ≤ i
  sum : ptN L + cur.length ≤ i
  pts : ∀ p ∈ L, 0 < p.2.length ∧ Qm.Small p.2
  sml : Qm.Small cur
  bl : Below b w wr
end Go.Proofs.YtljfiefobnncaabDoor

/- The small functions of outlinekeep: black, before, code, options. -/
namespace Go.Proofs.YtljfiefobnncaabDoor
open Go.RowKit



end Go.Proofs.YtljfiefobnncaabDoor
/- outlinekeep: code, isSide. -/
namespace Go.Proofs.YtljfiefobnncaabDoor
open Go.RowKit

end Go.Proofs.YtljfiefobnncaabDoor
/- outlinekeep: isSide, step. -/
namespace Go.Proofs.YtljfiefobnncaabDoor
open Go.RowKit

end Go.Proofs.YtljfiefobnncaabDoor
/- outlinekeep: step, twice. -/
namespace Go.Proofs.YtljfiefobnncaabDoor
open Go.RowKit

set_option maxRecDepth 4000 in
set_option maxHeartbeats 1000000 in
theorem step_big (g n cap i : Nat) (tw : Int) (l : List (Int × Int)) (hn : n = l.length) (hi : i < n) (hn2 : n ≤ 140737488355328) (w : World) (hP : PtsAt g l w) :
    Calls Tryd.prog 22 #[.agg #[.slice (some ⟨g, 0, none⟩) n cap, .int .i64 tw], .int .i64 i] w fun e w' => e = .returned (.tuple #[.agg #[.int .i64 (l.getD i (0, 0)).1, .int .i64 (l.getD i (0, 0)).2], .agg #[.int .i64 (l.getD ((i + 1) % l.length) (0, 0)).1, .int .i64 (l.getD ((i + 1) % l.length) (0, 0)).2]]) ∧ Below w.heap.size w w' := by
  have hg := hP.1
  have g1 : g < w.heap.size + 1 := by omega
  have g2 : g < w.heap.size + 1 + 1 := by omega
  have g3 : ¬ g = w.heap.size := by omega
  have g4 : ¬ g = w.heap.size + 1 := by omega
  have g5 : ¬ g = w.heap.size + 1 + 1 := by omega
  obtain ⟨a0, a1⟩ := hP.2 i (by omega)
  obtain ⟨z0, z1⟩ := hP.2 0 (by omega)
  obtain ⟨⟨pa, pb⟩, hpp⟩ : ∃ p, l.getD i (0, 0) = p := ⟨_, rfl⟩
  obtain ⟨⟨za, zb⟩, hzz⟩ : ∃ p, l.getD 0 (0, 0) = p := ⟨_, rfl⟩
  rw [hpp] at a0 a1 ⊢
  rw [hzz] at z0 z1
  by_cases h1 : i + 1 < n
  · obtain ⟨c0, c1⟩ := hP.2 (i + 1) (by omega)
    rw [Nat.mod_eq_of_lt (by omega)]
    obtain ⟨⟨qa, qb⟩, hqq⟩ : ∃ p, l.getD (i + 1) (0, 0) = p := ⟨_, rfl⟩
    rw [hqq] at c0 c1 ⊢
    have h1' : (i : Int) + 1 < n := by omega
    have h2' : (0 : Int) ≤ (i : Int) + 1 := by omega
    have h3' : IntKind.i64.wrap ((i : Int) + 1) = (i : Int) + 1 := by rw [IntKind.wrap_i64]; omega
    have h4' : ((i : Int) + 1).toNat = i + 1 := by omega
    clear hP hpp hzz hqq hn z0 z1
    dsimp only at a0 a1 c0 c1 ⊢
    go_enter Tryd.func22, Tryd.ntmps22
    go_wp2
    go_region_held3 (fun w' => w'.cell? ⟨w.heap.size + 1 + 1 + 1, 0, none⟩ = some (.int .i64 pa) ∧ w'.cell? ⟨w.heap.size + 1 + 1 + 1, 1, none⟩ = some (.int .i64 pb) ∧ w'.cell? ⟨w.heap.size, 0, none⟩ = some (.slice (some ⟨g, 0, none⟩) n cap) ∧ w'.cell? ⟨g, (i + 1) * 2, none⟩ = some (.int .i64 qa) ∧ w'.cell? ⟨g, (i + 1) * 2 + 1, none⟩ = some (.int .i64 qb))
      (first | (simp [go_sem, *]; done) | (go_keep))
      (fail)
    all_goals go_wp2
    all_goals (refine bodyPost_ret (v := .tuple #[.agg #[.int .i64 pa, .int .i64 pb], .agg #[.int .i64 qa, .int .i64 qb]]) (by simp [results, Tryd.results22, go_sem]) rfl ?_)
    all_goals exact ⟨rfl, by go_grown⟩
  · rw [show (i + 1) % l.length = 0 from by rw [show i + 1 = l.length from by omega, Nat.mod_self], hzz]
    have h1' : ¬ (i : Int) + 1 < n := by omega
    have h2' : (0 : Int) < n := by omega
    have h3' : 0 < n := by omega
    clear hP hpp hzz hn
    dsimp only at a0 a1 z0 z1 ⊢
    go_enter Tryd.func22, Tryd.ntmps22
    go_wp2
    go_region_held3 (fun w' => w'.cell? ⟨w.heap.size + 1 + 1 + 1, 0, none⟩ = some (.int .i64 pa) ∧ w'.cell? ⟨w.heap.size + 1 + 1 + 1, 1, none⟩ = some (.int .i64 pb) ∧ w'.cell? ⟨w.heap.size, 0, none⟩ = some (.slice (some ⟨g, 0, none⟩) n cap) ∧ w'.cell? ⟨g, 0, none⟩ = some (.int .i64 za) ∧ w'.cell? ⟨g, 1, none⟩ = some (.int .i64 zb))
      (first | (simp [go_sem, *]; done) | (go_keep))
      (fail)
    all_goals go_wp2
    all_goals (refine bodyPost_ret (v := .tuple #[.agg #[.int .i64 pa, .int .i64 pb], .agg #[.int .i64 za, .int .i64 zb]]) (by simp [results, Tryd.results22, go_sem]) rfl ?_)
    all_goals exact ⟨rfl, by go_grown⟩

theorem step_any (g n cap i : Nat) (tw : Int) (l : List (Int × Int)) (hn : n = l.length) (hi : i < n) (hn2 : n ≤ 4356) (w : World) (hP : PtsAt g l w) :
    Calls Tryd.prog 22 #[.agg #[.slice (some ⟨g, 0, none⟩) n cap, .int .i64 tw], .int .i64 i] w fun e w' => e = .returned (.tuple #[.agg #[.int .i64 (l.getD i (0, 0)).1, .int .i64 (l.getD i (0, 0)).2], .agg #[.int .i64 (l.getD ((i + 1) % l.length) (0, 0)).1, .int .i64 (l.getD ((i + 1) % l.length) (0, 0)).2]]) ∧ Below w.heap.size w w' :=
  step_big g n cap i tw l hn hi (by omega) w hP

end Go.Proofs.YtljfiefobnncaabDoor

/- outlinekeep: twice. -/
namespace Go.Proofs.YtljfiefobnncaabDoor
open Go.RowKit

set_option maxRecDepth 4000 in
set_option maxHeartbeats 1000000 in
theorem keepTwice_big (g n cap : Nat) (tw : Int) (l : List (Int × Int)) (hn : n = l.length) (h0 : 0 < n) (hs : Qm.Small l) (hn2 : n ≤ 140737488355328) (w : World) (hP : PtsAt g l w) :
    Calls Tryd.prog 14 #[.agg #[.slice (some ⟨g, 0, none⟩) n cap, .int .i64 tw]] w fun e w' => e = .returned (.int .i64 (Qm.twiceOf l)) ∧ Below w.heap.size w w' := by
  have HP := hid hP
  have hg := hP.1
  have HN := hid hn
  clear hP hn
  go_enter Tryd.func14, Tryd.ntmps14
  go_wp2_with fail
  go_loopw [3, 4] (fun sm i wr => ∃ k : Nat, k ≤ n ∧ i = .int .i64 k ∧ sm = .int .i64 (Qm.fsum l k) ∧ wr.cell? ⟨w.heap.size, 0, none⟩ = some (.slice (some ⟨g, 0, none⟩) n cap) ∧ wr.cell? ⟨w.heap.size, 1, none⟩ = some (.int .i64 tw) ∧ Below w.heap.size w wr ∧ w.heap.size < wr.heap.size) (fun _ i _ => n - (intOf i).toNat)
  case atStart => exact ⟨0, by omega, rfl, rfl, by simp, by simp, by go_grown, by simp⟩
  case round =>
    obtain ⟨k, hk, rfl, rfl, b0, b1, hb, hz⟩ := hrel
    have HB := hid hb
    have ts := Qm.fsum_small hs k
    by_cases hlt : k < n
    · have hlt' : (k : Int) < (n : Int) := by omega
      have sp := hs.at k
      have sq := hs.at ((k + 1) % l.length)
      have m1 := Qm.mul_small sp.2.2.1 sp.2.2.2 sq.1 sq.2.1
      have m2 := Qm.mul_small sp.1 sp.2.1 sq.2.2.1 sq.2.2.2
      have ST := hid (fun W' (hW : Below wr.heap.size wr W') => step_big g n cap k tw l HN.out hlt hn2 W' ((HP.out.on HB.out hg).on hW (by have := HB.out.size; omega)))
      have E2 : Hid (Qm.fsum l (k + 1) = Qm.fsum l k + ((l.getD k (0, 0)).2 * (l.getD ((k + 1) % l.length) (0, 0)).1 - (l.getD k (0, 0)).1 * (l.getD ((k + 1) % l.length) (0, 0)).2)) := rfl
      obtain ⟨⟨pa, pb⟩, hpp⟩ : ∃ p, l.getD k (0, 0) = p := ⟨_, rfl⟩
      obtain ⟨⟨qa, qb⟩, hqq⟩ : ∃ p, l.getD ((k + 1) % l.length) (0, 0) = p := ⟨_, rfl⟩
      rw [hpp] at m1 m2 sp E2 ST
      rw [hqq] at m1 m2 sq E2 ST
      dsimp only at m1 m2 sp sq E2 ST
      clear hpp hqq hb
      go_wp2_with fail
      refine (ST.out _ (by go_grown)).mono ?_
      rintro e w2 ⟨rfl, hb2⟩
      have B2 := hid (show Below w.heap.size w w2 from HB.out.trans (hb2.mono (by have := HB.out.size; omega)))
      obtain ⟨hc, hf⟩ := bcell hb2
      have z2 := hb2.size
      have e0 := (hc w.heap.size 0 hz).trans b0
      have e1 := (hc w.heap.size 1 hz).trans b1
      clear hb2 hc hf b0 b1
      obtain ⟨u, hu⟩ : ∃ u, pb * qa = u := ⟨_, rfl⟩
      obtain ⟨v, hv⟩ : ∃ v, pa * qb = v := ⟨_, rfl⟩
      rw [hu] at m1 E2
      rw [hv] at m2 E2
      go_wp2
      go_roundw
      case rel =>
        have hz2 : w.heap.size < w2.heap.size := by omega
        refine ⟨k + 1, by omega, by go_num, by rw [E2.out]; go_num, ?_, ?_, ?_, ?_⟩
        · first | exact e0 | simp [go_sem, e0, hz2]
        · first | exact e1 | simp [go_sem, e1, hz2]
        · first | exact B2.out | exact (B2.out.alloc (by omega) _).alloc (by simp; omega) _
        · first | exact hz2 | (simp; omega)
      case measure => simp [intOf]; omega
    · have hlt' : ¬ (k : Int) < (n : Int) := by omega
      have hkn : k = n := by omega
      subst hkn
      go_wp2
      go_ret
      exact ⟨ret_int (by rw [Qm.twiceOf_fsum, ← HN.out]), HB.out⟩

theorem keepTwice_any (g n cap : Nat) (tw : Int) (l : List (Int × Int)) (hn : n = l.length) (h0 : 0 < n) (hs : Qm.Small l) (hn2 : n ≤ 4356) (w : World) (hP : PtsAt g l w) :
    Calls Tryd.prog 14 #[.agg #[.slice (some ⟨g, 0, none⟩) n cap, .int .i64 tw]] w fun e w' => e = .returned (.int .i64 (Qm.twiceOf l)) ∧ Below w.heap.size w w' :=
  keepTwice_big g n cap tw l hn h0 hs (by omega) w hP

end Go.Proofs.YtljfiefobnncaabDoor

/- Owned rows: what is appended; small facts on lists. -/
namespace Go.Proofs.YtljfiefobnncaabDoor
open Go.RowKit

/-- A row that is owned, behind a row that is owned: what the law of append asks of what is appended. -/
theorem own_src {w : World} {b : Nat} {t : TypeId} {z : Nat} {v : Value} {n : Nat} {xs : List Value} (h : w.ownsRow b t z v n xs) (hn : 0 < n) : ∃ g cap, v = .slice (some ⟨g, 0, none⟩) n cap ∧ ∀ j u, xs[j]? = some u → w.cell? ((⟨g, 0, none⟩ : Addr).add j) = some u := by
  rcases h.2 with ⟨_, h0⟩ | ⟨g, cap, cur, rfl, _⟩
  · omega
  · exact ⟨g, cap, rfl, fun j u hu => h.cells (g := g) rfl j u hu⟩

/-- Nothing is appended. -/
theorem wpList_append_nothing {P : Program} {ops : Array Oper} {rest : List Oper} {o : Oper} {a : Act} {w : World} {Q : Exit → Act → World → Prop} (hgd : o.guard = none) (s x : Operand) (t : TypeId)
    (ho : o.op = .call { callee := .builtin .append, args := #[s, x], argTypes := #[t, t] }) (e : TypeId) (i : TypeInfo) (ht : P.underlying t = some (.slice e)) (hi : P.info? e = some i)
    (base : Option Addr) (n cap : Nat) (hle : n ≤ cap) (X : Value) (hs : a.eval s = .slice base n cap) (hx : a.eval x = X) (hsrc : Src P i.size t X 0 [] w)
    (h : wpList P ops Q rest (a.put o.dst (.slice base n cap)) w) : wpList P ops Q (o :: rest) a w := by
  refine wpList_plain hgd fun K hK => ?_
  have hr := run_append_nothing (P := P) w t t o.type e i ht hi base n cap hle X hsrc
  unfold Oper.wp execOp
  simp only [ho, resolve, invoke, builtin, Sem.run_bind, Sem.run_pure, Result.andThen_ok, List.map_toArray, List.map_cons, List.map_nil, hs, hx, hr]
  exact hK _ _ h
/-- An empty row that is owned yields nothing. -/
theorem own_src0 {P : Program} {w : World} {b : Nat} {t e : TypeId} {z : Nat} {v : Value} {xs : List Value} {ts : TypeId} (h : w.ownsRow b t z v 0 xs) (hk : P.underlying ts = some (.slice e)) (size : Nat) : Src P size ts v 0 [] w := by
  rcases h.2 with ⟨rfl, _⟩ | ⟨g, cap, cur, rfl, _⟩
  · exact Src.ofNil _ hk 0
  · exact Src.ofSlice _ hk ⟨g, 0, none⟩ 0 cap [] (by simp) (by simp) (by simp)
theorem own_cap {w : World} {b : Nat} {t : TypeId} {z : Nat} {v : Value} {n : Nat} {xs : List Value} (h : w.ownsRow b t z v n xs) : ∃ ao cap, v = .slice ao n cap ∧ n ≤ cap := by
  rcases h.2 with ⟨rfl, rfl⟩ | ⟨g, cap, cur, rfl, _, _, hc, _⟩
  · exact ⟨_, _, rfl, Nat.le_refl _⟩
  · exact ⟨_, _, rfl, hc⟩

theorem pts_one (l : List (Int × Int)) : ∀ u ∈ Qm.ptsV l, u.oneCell' = true := by
  intro u hu
  simp only [Qm.ptsV, List.mem_flatMap] at hu
  obtain ⟨s, _, hs⟩ := hu
  simp only [Qm.ptV, List.mem_cons, List.not_mem_nil, or_false] at hs
  rcases hs with rfl | rfl <;> rfl
theorem ptsV_app (a b : List (Int × Int)) : Qm.ptsV (a ++ b) = Qm.ptsV a ++ Qm.ptsV b := by simp [Qm.ptsV]

theorem mem_take_getD {α : Type} {L : List α} {j : Nat} {x d : α} (h : x ∈ L.take j) : ∃ m, m < j ∧ m < L.length ∧ L.getD m d = x := by
  obtain ⟨m, hm, rfl⟩ := List.mem_iff_getElem.1 h
  simp only [List.length_take] at hm
  exact ⟨m, by omega, by omega, by rw [List.getD_eq_getElem?_getD, List.getElem?_eq_getElem (by omega), List.getElem_take]; rfl⟩

end Go.Proofs.YtljfiefobnncaabDoor

/- outlinekeep.shapes. -/
namespace Go.Proofs.YtljfiefobnncaabDoor
open Go.RowKit
attribute [local go_sem ↓] Go.wp_at_zero Go.wp_at_succ

/-- What shapes gives. -/
def ShapesOut (len b : Nat) (vl : Value) (w' : World) : Prop :=
  ∃ L : List (Value × List (Int × Int)), RowP b vl L w' ∧ L.length ≤ len + 1 ∧ ptN L ≤ len ∧ ∀ p ∈ L, 0 < p.2.length ∧ Qm.Small p.2
theorem small_snoc {l : List (Int × Int)} (h : Qm.Small l) {x y : Nat} (hx : x < 33) (hy : y < 33) : Qm.Small (l ++ [((x : Int), (y : Int))]) := fun q hq => by
  rcases List.mem_append.1 hq with hq | hq
  · exact h q hq
  · rw [List.mem_singleton] at hq; subst hq
    exact ⟨by simp, by show (x : Int) ≤ 32; omega, by simp, by show (y : Int) ≤ 32; omega⟩
theorem vt_cellsT (w : World) (g : Nat) (b : Int) (t : TypeId) (ao : Option Addr) (n c : Nat) (hg : g = w.heap.size) : ∀ (j : Nat) (u : Value), [Value.slice ao n c, .int .i64 b][j]? = some u → (w.alloc (.cells #[.slice ao n c, .int .i64 b] t)).cell? ((⟨g, 0, none⟩ : Addr).add j) = some u := by
  subst hg
  exact vt_cells w _ b t ao n c rfl
theorem own_some {w : World} {b : Nat} {t : TypeId} {av : Option Addr} {n c : Nat} {l : List (Int × Int)} (h : w.ownsRow b t 2 (.slice av n c) l.length (Qm.ptsV l)) (hn : 0 < l.length) : ∃ g, av = some ⟨g, 0, none⟩ ∧ PtsAt g l w := by
  obtain ⟨g', c', e', -, hP, -⟩ := own_at h hn
  injection e' with e1 _ _
  exact ⟨g', e1, hP⟩
theorem own_pts {w : World} {b : Nat} {t : TypeId} {g n c : Nat} {l : List (Int × Int)} (h : w.ownsRow b t 2 (.slice (some ⟨g, 0, none⟩) n c) l.length (Qm.ptsV l)) (hn : 0 < l.length) : PtsAt g l w := by
  obtain ⟨g', e, hP⟩ := own_some h hn
  injection e with e
  injection e with e
  subst e
  exact hP

set_option maxRecDepth 4000 in
set_option maxHeartbeats 4000000 in
theorem keepShapes_any (ao : Option Addr) (len cap : Nat) (w : World) (hraw : RawB ao len w) (hlen : len ≤ 1048576) :
    Calls Tryd.prog 7 #[.slice ao len cap] w fun e w' => (∃ v, e = .returned v ∧ ShapesOut len w.heap.size v w') ∧ Below w.heap.size w w' := by
  obtain ⟨i0, hi0, hz0, hz1, hz2⟩ := info_parts infoShape
  obtain ⟨ip, hip, hp0, hp1, hp2⟩ := info_parts infoPoint
  have HR := hid hraw
  clear hraw
  go_enter Tryd.func7, Tryd.ntmps7
  go_wp2_with fail
  have I0 := hid (show SIk w.heap.size 0 (.slice none 0 0) (.slice none 0 0) [] [] w (w.alloc (.cells #[.slice none 0 0, .int .i64 0] 42)) from ⟨Pnd.fresh (RowP.nil _ _), BoxT.new _ _ _ _, by simp, by simp [ptN], by simp, fun q hq => by simp at hq, by go_grown⟩)
  go_loopw [3, 5] (fun lv iv wr => ∃ (i : Nat) (v : Value) (L : List (Value × List (Int × Int))) (cur : List (Int × Int)), i ≤ len ∧ iv = .int .i64 i ∧ Hid (SIk w.heap.size i lv v L cur w wr)) (fun _ i _ => len - (intOf i).toNat)
  case atStart => exact ⟨0, _, [], [], by omega, rfl, I0⟩
  case round =>
    clear I0
    obtain ⟨i, v, L, cur, hi, rfl, hI⟩ := hrel
    obtain ⟨al, cl, rfl⟩ := own_len hI.out.pnd.row.row
    obtain ⟨av, cv, rfl⟩ := own_len hI.out.pnd.own
    obtain ⟨s0, s1, s2, s3, s4⟩ := hI.out.box
    have hz := hI.out.bl.size
    have q1 := hI.out.few
    have q2 := hI.out.sum
    by_cases hlt : i + 1 < len
    · obtain ⟨b, off, rfl, hb, hc⟩ := HR.out.resolve_left (by omega)
      obtain ⟨x, hx, x1, x2⟩ := hc i (by omega)
      obtain ⟨y, hy, y1, y2⟩ := hc (i + 1) hlt
      have HX := hid hx
      have cx : wr.cell? ⟨b, off + i, none⟩ = some (.int .i64 x) := (hI.out.bl.cell (p := ⟨b, off + i, none⟩) hb).trans hx
      have cy : wr.cell? ⟨b, off + (i + 1), none⟩ = some (.int .i64 y) := (hI.out.bl.cell (p := ⟨b, off + (i + 1), none⟩) hb).trans hy
      have bz : b < wr.heap.size := by omega
      have bz1 : b < wr.heap.size + 1 := by omega
      have ne1 : ¬ b = w.heap.size := by omega
      have S0 := hid (show wr.drew.cell? ⟨b, off + i, none⟩ = some (.int .i64 x) ∧ wr.drew.cell? ⟨b, off + (i + 1), none⟩ = some (.int .i64 y) ∧ b < wr.drew.heap.size from ⟨cx, cy, bz⟩)
      have PX := hid (fun W => pick_big x 33 x1 x2 (by omega) (by omega) W)
      have PY := hid (fun W => pick_big y 33 y1 y2 (by omega) (by omega) W)
      have i0' : (0 : Int) ≤ (i : Nat) := by omega
      have i1' : ((i : Nat) : Int) + 1 < (len : Nat) := by omega
      have i2' : ((i : Nat) : Int) < (len : Nat) := by omega
      have i3' : (0 : Int) ≤ (i : Int) + 1 := by omega
      have i4' : IntKind.i64.wrap ((i : Int) + 1) = (i : Int) + 1 := by rw [IntKind.wrap_i64]; omega
      have i5' : ((i : Int) + 1).toNat = i + 1 := by omega
      clear hx hy hc
      go_wp2_with fail
      go_region_held3 (fun w' => w'.cell? ⟨b, off + i, none⟩ = some (.int .i64 x) ∧ w'.cell? ⟨b, off + (i + 1), none⟩ = some (.int .i64 y) ∧ b < w'.heap.size)
        (first | exact S0.out | (simp [go_sem, *]; done) | (go_keep))
        (first | (go_at_call_of 12 (Value.int .i64 x); refine (PX.out _).mono ?_; rintro e w2 ⟨⟨px, rfl, hpx⟩, rfl⟩) | (go_at_call_of 12 (Value.int .i64 y); refine (PY.out _).mono ?_; rintro e w2 ⟨⟨py, rfl, hpy⟩, rfl⟩))
      all_goals (
        have BX := hid (show Below wr.heap.size wr (wr.alloc (.cells #[.int .i64 px, .int .i64 py] 46)).drew from ((Below.refl _ _).alloc (Nat.le_refl _) _).trans ⟨rfl, rfl, rfl, Nat.le_refl _, fun _ _ => rfl⟩)
        have xc0 : (wr.alloc (.cells #[.int .i64 px, .int .i64 py] 46)).drew.cell? ⟨wr.heap.size, 0, none⟩ = some (.int .i64 px) := by show (wr.alloc _).cell? _ = _; simp
        have xc1 : (wr.alloc (.cells #[.int .i64 px, .int .i64 py] 46)).drew.cell? ⟨wr.heap.size, 1, none⟩ = some (.int .i64 py) := by show (wr.alloc _).cell? _ = _; simp
        have xsz : (wr.alloc (.cells #[.int .i64 px, .int .i64 py] 46)).drew.heap.size = wr.heap.size + 1 := by show (wr.alloc _).heap.size = _; simp
        obtain ⟨X, hX⟩ : ∃ X, X = (wr.alloc (.cells #[.int .i64 px, .int .i64 py] 46)).drew := ⟨_, rfl⟩
        rw [← hX] at BX xc0 xc1 xsz ⊢
        clear hX
        have PN8 := hid (hI.out.pnd.on BX.out)
        have BX8 := hid (hI.out.box.on BX.out s0)
        have BL8 := hid (hI.out.bl.trans (BX.out.mono hz))
        have SM9 := hid (small_snoc hI.out.sml hpx hpy)
        have PTS := hid hI.out.pts
        have XZ := hid xsz
        clear s1 s2 s3 s4 xsz cx cy S0 PX PY
        obtain ⟨s0', s1, s2, s3, s4⟩ := BX8.out
        have xz : wr.heap.size < X.heap.size := by have := XZ.out; omega
        have m1 : cur.length + 1 ≤ maxLen := by unfold maxLen; omega
        have m2 : (cur.length + 1) * 16 ≤ 140737488355328 := by omega
        have n3 : w.heap.size + 1 ≤ (X.alloc (.cells #[.int .i64 px, .int .i64 py] 46)).heap.size := by simp; omega
        obtain ⟨m, hm⟩ : ∃ m, m = cur.length := ⟨_, rfl⟩
        obtain ⟨n, hn⟩ : ∃ n, n = L.length := ⟨_, rfl⟩
        have HM := hid hm
        have HN := hid hn
        rw [← hm] at s1 m1 m2 q2
        rw [← hn] at q1 ⊢
        have PN := hid (show Pnd (w.heap.size + 1) (.slice al n cl) (.slice av m cv) L cur X by rw [hm, hn]; exact PN8.out)
        have BB := hid (show BoxT w.heap.size (.slice av m cv) (.int .i64 0) X by rw [hm]; exact BX8.out)
        have OW := hid (show X.ownsRow (w.heap.size + 1) 46 2 (.slice av m cv) m (Qm.ptsV cur) by have := PN.out.own; rw [← hm] at this; exact this)
        clear hm hn hI PN8 BX8
        go_wp2_with (first
          | (at_builtin; refine wpList_append_own_at _ rfl _ _ 40 rfl (w.heap.size + 1) 46 ip (.agg #[.int .i64 0, .int .i64 0]) 2 16 Tryd.underlying40 hip hp0 hp1 hp2 rfl (by decide) _ _ _ rfl (OW.out.alloc _) ⟨_, 0, none⟩ 1 1 [.int .i64 px, .int .i64 py] rfl rfl (two_cells _ _ _ _) (two_one _ _) m1 m2 n3 ?_))
        intro v9 w9 o9 g9 _ e9
        have PN9 := hid ((PN.out.on ((Below.refl _ _).alloc (Nat.le_refl _) (.cells #[.int .i64 px, .int .i64 py] 46))).pt (by rw [← HM.out]; exact o9) g9 (by simpa using e9))
        have BB9 := hid ((BB.out.on ((Below.refl _ _).alloc (Nat.le_refl _) (.cells #[.int .i64 px, .int .i64 py] 46)) s0').gb g9 (fun e => by have := (PN.out.own.lt _ e).1; omega))
        have BL9 := hid (show Below w.heap.size w w9 from (BL8.out.alloc (by omega) _).grown g9 (by simp; omega) (fun q hq => by have := (PN.out.own.lt q hq).1; omega))
        obtain ⟨h9, cap9, e9', -⟩ := own_at PN9.out.own (by simp)
        have e10 : (cur ++ [((px : Int), (py : Int))]).length = m + 1 := by rw [List.length_append, ← HM.out]; rfl
        rw [e10] at e9'
        subst e9'
        obtain ⟨cu, hcu⟩ : ∃ cu, cu = cur ++ [((px : Int), (py : Int))] := ⟨_, rfl⟩
        rw [← hcu] at PN9 SM9 e10
        have CU := hid e10
        clear hcu o9 g9 e9 e10 s1 s2 s3 s4 xc0 xc1 m1 m2 n3
        obtain ⟨t0, t1, t2, t3, t4⟩ := BB9.out
        have cx : w9.cell? ⟨b, off + i, none⟩ = some (.int .i64 x) := (BL9.out.cell (p := ⟨b, off + i, none⟩) hb).trans HX.out
        have PN10 := hid (PN9.out.set (a := ⟨w.heap.size, 0, none⟩) (by show w.heap.size < w.heap.size + 1; omega) (.slice (some ⟨h9, 0, none⟩) (m + 1) cap9))
        have BB10 := hid (BB9.out.set0 (.slice (some ⟨h9, 0, none⟩) (m + 1) cap9))
        have BL10 := hid (BL9.out.setCell (p := ⟨w.heap.size, 0, none⟩) (show w.heap.size ≤ w.heap.size from Nat.le_refl _) (.slice (some ⟨h9, 0, none⟩) (m + 1) cap9))
        by_cases hx0 : x < 0
        · have hP := own_pts PN10.out.own (by have := CU.out; omega)
          have TW := hid (keepTwice_big h9 (m + 1) cap9 0 cu CU.out.symm (by omega) SM9.out (by omega) _ hP)
          obtain ⟨tw, htw⟩ : ∃ tw, tw = Qm.twiceOf cu := ⟨_, rfl⟩
          rw [← htw] at TW
          have HT := hid htw
          clear hP htw
          go_wp2_with fail
          refine TW.out.mono ?_
          rintro e w11 ⟨rfl, b11⟩
          have PN11 := hid ((PN10.out.on b11).set (a := ⟨w.heap.size, 1, none⟩) (by show w.heap.size < w.heap.size + 1; omega) (.int .i64 tw))
          have BB11 := hid (BB10.out.on b11 BB10.out.1)
          have BB12 := hid (BB11.out.set1 (.int .i64 tw))
          have BL11 := hid (BL10.out.trans (b11.mono BL10.out.size))
          have BL12 := hid (BL11.out.setCell (p := ⟨w.heap.size, 1, none⟩) (show w.heap.size ≤ w.heap.size from Nat.le_refl _) (.int .i64 tw))
          have RW := hid (show (w11.setCell ⟨w.heap.size, 1, none⟩ (.int .i64 tw)).ownsRow (w.heap.size + 1) 42 2 (.slice al n cl) n (shpP L) by have := PN11.out.row.row; rw [← HN.out] at this; exact this)
          have n1 : n + 1 ≤ maxLen := by unfold maxLen; omega
          have n2 : (n + 1) * 32 ≤ 140737488355328 := by omega
          have z11 := BB12.out.1
          have n3 : w.heap.size + 1 ≤ ((w11.setCell ⟨w.heap.size, 1, none⟩ (.int .i64 tw)).alloc (.cells #[.slice (some ⟨h9, 0, none⟩) (m + 1) cap9, .int .i64 tw] 42)).heap.size := by simp at z11 ⊢; omega
          clear b11 t0 t1 t2 t3 t4 cx
          obtain ⟨t0, t1, t2, t3, t4⟩ := BB11.out
          go_wp2_with (first
            | (at_builtin; refine wpList_append_own_at _ rfl _ _ 27 rfl (w.heap.size + 1) 42 i0 (.agg #[.slice none 0 0, .int .i64 0]) 2 32 Tryd.underlying27 hi0 hz0 hz1 hz2 rfl (by decide) _ _ _ rfl (RW.out.alloc _) ⟨_, 0, none⟩ 1 1 [.slice (some ⟨h9, 0, none⟩) (m + 1) cap9, .int .i64 tw] rfl rfl (vt_cellsT _ _ _ _ _ _ _ (by simp)) (vt_one _ _ _ _) n1 n2 n3 ?_))
          intro vl' w13 o13 g13 _ e13
          have RP13 := hid ((PN11.out.on ((Below.refl _ _).alloc (Nat.le_refl _) (.cells #[.slice (some ⟨h9, 0, none⟩) (m + 1) cap9, .int .i64 tw] 42))).shape (by rw [← HN.out, ← HT.out]; exact o13) g13 (by simpa using e13))
          have BB13 := hid ((BB12.out.on ((Below.refl _ _).alloc (Nat.le_refl _) (.cells #[.slice (some ⟨h9, 0, none⟩) (m + 1) cap9, .int .i64 tw] 42)) BB12.out.1).gb g13 (fun e => by have := (RW.out.lt _ e).1; omega))
          have BL13 := hid (show Below w.heap.size w w13 from (BL12.out.alloc BL12.out.size _).grown g13 (Nat.le_of_lt n3) (fun q hq => by have := (RW.out.lt q hq).1; omega))
          clear o13 g13 e13 t0 t1 t2 t3 t4
          obtain ⟨t0, t1, t2, t3, t4⟩ := BB13.out
          go_wp2
          go_roundw
          case rel => exact ⟨i + 2, _, _, [], by omega, by go_num, show SIk _ _ _ _ _ _ _ _ from ⟨Pnd.fresh ((RP13.out.setP (by show w.heap.size < w.heap.size + 1; omega) _).setP (by show w.heap.size < w.heap.size + 1; omega) _), (BB13.out.set0 _).set1 _, by have := HN.out; simp; omega, by rw [ptN_snoc]; have := CU.out; simp; omega, fun p hp => by
              rcases List.mem_append.1 hp with hp | hp
              · exact PTS.out p hp
              · rw [List.mem_singleton] at hp; subst hp; exact ⟨by have := CU.out; show 0 < cu.length; omega, SM9.out⟩, fun q hq => by simp at hq, (BL13.out.setCell (by simp) _).setCell (by simp) _⟩⟩
          case measure => simp [intOf]; omega
        · go_wp2
          go_roundw
          case rel => exact ⟨i + 2, _, L, cu, by omega, by go_num, show SIk _ _ _ _ _ _ _ _ from ⟨PN10.out, BB10.out, by have := HN.out; omega, by have := CU.out; omega, PTS.out, SM9.out, BL10.out⟩⟩
          case measure => simp [intOf]; omega)
    · have i1' : ((len : Nat) : Int) ≤ (i : Nat) + 1 := by omega
      have PTS := hid hI.out.pts
      have BL := hid hI.out.bl
      have BB := hid hI.out.box
      have PN := hid hI.out.pnd
      have SM := hid hI.out.sml
      obtain ⟨m, hm⟩ : ∃ m, m = cur.length := ⟨_, rfl⟩
      obtain ⟨n, hn⟩ : ∃ n, n = L.length := ⟨_, rfl⟩
      have HM := hid hm
      have HN := hid hn
      rw [← hm] at s1 q2 PN BB
      rw [← hn] at q1 PN ⊢
      clear hm hn hI
      by_cases hm0 : 0 < m
      · obtain ⟨g', rfl, hP⟩ := own_some PN.out.own (by rw [← HM.out]; exact hm0)
        have TW := hid (fun W (hb : Below wr.heap.size wr W) => keepTwice_big g' m cv 0 cur HM.out hm0 SM.out (by omega) W (hP.on hb hP.1))
        have TW1 := hid (TW.out _ (Below.refl _ _))
        obtain ⟨tw, htw⟩ : ∃ tw, tw = Qm.twiceOf cur := ⟨_, rfl⟩
        rw [← htw] at TW1
        have HT := hid htw
        have hm1 : (0 : Int) < (m : Nat) := by omega
        clear hP htw TW
        go_wp2_with fail
        refine TW1.out.mono ?_
        rintro e w11 ⟨rfl, b11⟩
        have PN11 := hid ((PN.out.on b11).set (a := ⟨w.heap.size, 1, none⟩) (by show w.heap.size < w.heap.size + 1; omega) (.int .i64 tw))
        have BB11 := hid (BB.out.on b11 BB.out.1)
        have BB12 := hid (BB11.out.set1 (.int .i64 tw))
        have BL11 := hid (BL.out.trans (b11.mono BL.out.size))
        have BL12 := hid (BL11.out.setCell (p := ⟨w.heap.size, 1, none⟩) (show w.heap.size ≤ w.heap.size from Nat.le_refl _) (.int .i64 tw))
        have RW := hid (show (w11.setCell ⟨w.heap.size, 1, none⟩ (.int .i64 tw)).ownsRow (w.heap.size + 1) 42 2 (.slice al n cl) n (shpP L) by have := PN11.out.row.row; rw [← HN.out] at this; exact this)
        have n1 : n + 1 ≤ maxLen := by unfold maxLen; omega
        have n2 : (n + 1) * 32 ≤ 140737488355328 := by omega
        have z11 := BB12.out.1
        have n3 : w.heap.size + 1 ≤ ((w11.setCell ⟨w.heap.size, 1, none⟩ (.int .i64 tw)).alloc (.cells #[.slice (some ⟨g', 0, none⟩) m cv, .int .i64 tw] 42)).heap.size := by simp at z11 ⊢; omega
        clear b11 s1 s2 s3 s4
        obtain ⟨t0, t1, t2, t3, t4⟩ := BB11.out
        go_wp2_with (first
          | (at_builtin; refine wpList_append_own_at _ rfl _ _ 27 rfl (w.heap.size + 1) 42 i0 (.agg #[.slice none 0 0, .int .i64 0]) 2 32 Tryd.underlying27 hi0 hz0 hz1 hz2 rfl (by decide) _ _ _ rfl (RW.out.alloc _) ⟨_, 0, none⟩ 1 1 [.slice (some ⟨g', 0, none⟩) m cv, .int .i64 tw] rfl rfl (vt_cellsT _ _ _ _ _ _ _ (by simp)) (vt_one _ _ _ _) n1 n2 n3 ?_))
        intro vl' w13 o13 g13 _ e13
        have RP13 := hid ((PN11.out.on ((Below.refl _ _).alloc (Nat.le_refl _) (.cells #[.slice (some ⟨g', 0, none⟩) m cv, .int .i64 tw] 42))).shape (by rw [← HN.out, ← HT.out]; exact o13) g13 (by simpa using e13))
        have BL13 := hid (show Below w.heap.size w w13 from (BL12.out.alloc BL12.out.size _).grown g13 (Nat.le_of_lt n3) (fun q hq => by have := (RW.out.lt q hq).1; omega))
        clear o13 g13 e13 t0 t1 t2 t3 t4
        go_wp2
        go_ret
        exact ⟨⟨_, rfl, _, RP13.out.mono (by omega), by have := HN.out; simp; omega, by rw [ptN_snoc]; have := HM.out; show ptN L + cur.length ≤ len; omega, fun p hp => by
          rcases List.mem_append.1 hp with hp | hp
          · exact PTS.out p hp
          · rw [List.mem_singleton] at hp; subst hp; exact ⟨by have := HM.out; show 0 < cur.length; omega, SM.out⟩⟩, BL13.out⟩
      · have hm1 : ¬ (0 : Int) < (m : Nat) := by omega
        go_wp2
        go_ret
        exact ⟨⟨_, rfl, L, PN.out.row.mono (by omega), by have := HN.out; omega, by omega, PTS.out⟩, BL.out⟩
end Go.Proofs.YtljfiefobnncaabDoor
