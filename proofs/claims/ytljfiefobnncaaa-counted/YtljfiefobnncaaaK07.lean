import Derived.Test.YtljfiefobnncaaaK04
import Derived.Test.YtljfiefobnncaaaK01
import Derived.Test.YtljfiefobnncaaaK05
import Derived.Deep.RegionWith
import Derived.Deep.QuietTactic
import Derived.BigQuiet
import Derived.Deep.WholeRow
import Derived.Great.BuildSlice
import Derived.Maps.AppendAt
import Derived.Test.YtljfiefobnncaaaK06
import Derived.Deep.Upon

/- outlineref.Write. -/
namespace Go.Proofs.Ytljfiefobnncaaa
open Go.RowKit



/-- The box of a bitmap at block B stands; below it all is as it was. -/
def Inb (B : Nat) (W H : Nat) (s : ByteArray) (w wr : World) : Prop :=
  wr.cell? ⟨B, 0, none⟩ = some (.int .i64 W) ∧ wr.cell? ⟨B, 1, none⟩ = some (.int .i64 H) ∧ wr.cell? ⟨B, 2, none⟩ = some (.string s) ∧ Below B w wr ∧ B < wr.heap.size
theorem Inb.on {B W H : Nat} {s : ByteArray} {w wr w2 : World} (h : Inb B W H s w wr) (hb : Below wr.heap.size wr w2) : Inb B W H s w w2 := by
  obtain ⟨c0, c1, c2, hn, hz⟩ := h
  exact ⟨(hb.cell (p := ⟨B, 0, none⟩) hz).trans c0, (hb.cell (p := ⟨B, 1, none⟩) hz).trans c1, (hb.cell (p := ⟨B, 2, none⟩) hz).trans c2, hn.trans (hb.mono (Nat.le_of_lt hz)), Nat.lt_of_lt_of_le hz hb.size⟩
theorem Inb.alloc {B W H : Nat} {s : ByteArray} {w wr : World} (h : Inb B W H s w wr) (o : Obj) : Inb B W H s w (wr.alloc o) :=
  h.on ((Below.refl _ _).alloc (Nat.le_refl _) _)

/-- 'string([]byte{b})'. -/
theorem one_byte (b : UInt8) (v : Int) (hv : v = (b.toNat : Int)) (wx : World) :
    Sem.run Try.prog (convert 76 9 (.slice (some ⟨wx.heap.size, 0, none⟩) 1 1)) (wx.alloc (.cells #[.int .u8 v] 5)) = .ok (.string ⟨#[b]⟩) (wx.alloc (.cells #[.int .u8 v] 5)) := by
  subst hv
  refine run_convert_bytes_back (P := Try.prog) (wx.alloc (.cells #[.int .u8 (b.toNat : Int)] 5)) 76 9 5 ⟨wx.heap.size, 0, none⟩ 1 [b] Try.underlying76 Try.underlying5 Try.underlying9 (fun j hj => ?_)
  match j, hj with
  | 0, _ => simp [Addr.add]

end Go.Proofs.Ytljfiefobnncaaa
/- Find of package cycles: what holds in its loops. -/
namespace Go.Proofs.Ytljfiefobnncaaa
open Go.RowKit

/-- The cells of a walker. -/
def wkN (N : Nat) (a b c d e f : Value) : List Value := a :: b :: c :: d :: e :: f :: List.replicate N (.bool false)
abbrev wkL (a b c d e f : Value) : List Value := wkN 4356 a b c d e f
set_option maxRecDepth 100000 in
theorem infoWk : (Try.prog.info? 94).map (fun i => (i.zero, i.size)) = some (some (.agg ⟨wkL (.int .i64 0) (.int .i64 0) (.string ⟨#[]⟩) (.int .i64 0) (.string ⟨#[]⟩) (.int .i64 0)⟩), 4362) := by kernel_rfl
set_option maxRecDepth 100000 in
theorem builtWk (a b c d e f : Value) : Try.prog.built 94 [(0, .agg #[a, b, c]), (1, .agg #[d, e, f])] = some ⟨wkL a b c d e f⟩ := by kernel_rfl
theorem wkN_size (N : Nat) (a b c d e f : Value) : (⟨wkN N a b c d e f⟩ : Array Value).size = N + 6 := by simp [wkN]
theorem wkN_one (N : Nat) (W H pol spk : Int) (s draws : ByteArray) : (⟨wkN N (.int .i64 W) (.int .i64 H) (.string s) (.int .i64 pol) (.string draws) (.int .i64 spk)⟩ : Array Value).all (·.oneCell') = true := by
  simp [wkN, Value.oneCell']
theorem wkN_at (N : Nat) (a b c d e f : Value) (n : Nat) (h : n < N) : (⟨wkN N a b c d e f⟩ : Array Value)[6 + n]? = some (.bool false) := by
  rw [Nat.add_comm]; simp [wkN, h]
theorem Wk.newN (N W H : Nat) (s : ByteArray) (pol : Nat) (draws : ByteArray) (spk : Int) (w : World) (t : TypeId) : Wk w.heap.size W H s pol draws spk (w.alloc (.cells ⟨wkN N (.int .i64 W) (.int .i64 H) (.string s) (.int .i64 pol) (.string draws) (.int .i64 spk)⟩ t)) :=
  ⟨by simp [wkN], by simp [wkN], by simp [wkN], by simp [wkN], by simp [wkN], by simp [wkN], by simp⟩
theorem Tkn.new (a b c d e f : Value) (w : World) (t : TypeId) : Tkn w.heap.size (fun _ => false) (w.alloc (.cells ⟨wkL a b c d e f⟩ t)) := fun n hn =>
  ⟨by rw [World.cell?_alloc_new, wkN_at _ _ _ _ _ _ _ n hn], by rw [World.frozen?_alloc_new]⟩

theorem infoShape : (Try.prog.info? 43).map (fun i => (i.zero, i.size, i.bytes)) = some (some (.agg #[.slice none 0 0, .int .i64 0]), 2, 32) := by kernel_rfl

/-- The cells of a row of shapes: where the points of each are, and twice its area. -/
def shpV (f : Qm.Sd → Qm.Sd) (L : List (Value × (Qm.Sd × Nat))) : List Value := L.flatMap fun p => [p.1, .int .i64 (Qm.twiceOf (Qm.ptsOf f p.2))]
theorem shpV_snoc (f : Qm.Sd → Qm.Sd) (L : List (Value × (Qm.Sd × Nat))) (p : Value × (Qm.Sd × Nat)) : shpV f (L ++ [p]) = shpV f L ++ [p.1, .int .i64 (Qm.twiceOf (Qm.ptsOf f p.2))] := by simp [shpV]

/-- The lists of an answer: the row of shapes and each shape's points have blocks of their own, from b on. -/
structure Rowed (f : Qm.Sd → Qm.Sd) (b : Nat) (vl : Value) (L : List (Value × (Qm.Sd × Nat))) (w : World) : Prop where
  row : w.ownsRow b 43 2 vl L.length (shpV f L)
  pts : ∀ p ∈ L, w.ownsRow b 47 2 p.1 p.2.2 (Qm.ptsV (Qm.ptsOf f p.2))
  apart : (vl :: L.map (·.1)).Pairwise fun a c => a.ownBlock = none ∨ a.ownBlock ≠ c.ownBlock

/-- What holds when all points ahead of K have been seen. -/
structure FI (g W H : Nat) (s : ByteArray) (pol : Nat) (draws : ByteArray) (spk : Int) (X : World) (K : Int) (L : List (Value × (Qm.Sd × Nat))) (T : Nat → Bool) (vl : Value) (wr : World) : Prop where
  canon : ∀ p ∈ L, Qm.Canon (fB W H s pol draws) (bB W H s) Qm.key p.2
  sorted : (L.map (·.2)).Pairwise fun a b => Qm.key a.1 < Qm.key b.1
  past : ∀ p ∈ L, Qm.key p.2.1 < K
  rep : Qm.Rep (Pm.blackB W H s.data.toList) (fB W H s pol draws) T (L.map (·.2))
  ahead : Ahead (Pm.blackB W H s.data.toList) (fB W H s pol draws) (L.map (·.2)) K
  wk : Wk g W H s pol draws spk wr
  tkn : Tkn g T wr
  rowed : Rowed (fB W H s pol draws) (g + 1) vl L wr
  below : Below g X wr
  few : (L.length : Int) ≤ K

theorem FI.cyc {g W H : Nat} {s : ByteArray} {pol : Nat} {draws : ByteArray} {spk : Int} {X : World} {K : Int} {L : List (Value × (Qm.Sd × Nat))} {T : Nat → Bool} {vl : Value} {wr : World} (h : FI g W H s pol draws spk X K L T vl wr) : ∀ c ∈ L.map (·.2), Qm.Cyc (fB W H s pol draws) (bB W H s) c.1 c.2 := by
  intro c hc
  obtain ⟨p, hp, rfl⟩ := List.mem_map.1 hc
  exact (h.canon p hp).1

theorem own_keep {w w' : World} {b : Nat} {t : TypeId} {z : Nat} {v : Value} {n : Nat} {xs : List Value} (h : w.ownsRow b t z v n xs) {g : Nat} (hg : g < b) (hb : w.grownBy w' (some g)) : w'.ownsRow b t z v n xs := by
  refine h.kept hb ?_
  cases hv : v.ownBlock with
  | none => exact .inl rfl
  | some k => right; intro e; injection e with e; have := h.lt k hv; omega
theorem own_below {w w' : World} {b : Nat} {t : TypeId} {z : Nat} {v : Value} {n : Nat} {xs : List Value} (h : w.ownsRow b t z v n xs) (hb : Below w.heap.size w w') : w'.ownsRow b t z v n xs :=
  h.kept (grown_of_below hb none) (by cases v.ownBlock <;> simp)
theorem Rowed.on {f : Qm.Sd → Qm.Sd} {b : Nat} {vl : Value} {L : List (Value × (Qm.Sd × Nat))} {w w' : World} (h : Rowed f b vl L w) {g : Nat} (hg : g < b) (hb : w.grownBy w' (some g)) : Rowed f b vl L w' :=
  ⟨own_keep h.row hg hb, fun p hp => own_keep (h.pts p hp) hg hb, h.apart⟩

section
variable {g W H : Nat} {s : ByteArray} {pol : Nat} {draws : ByteArray} {spk : Int} {X : World} {L : List (Value × (Qm.Sd × Nat))} {T : Nat → Bool} {vl : Value} {wr : World}

/-- Nothing begins there. -/
theorem FI.none {K : Int} (h : FI g W H s pol draws spk X K L T vl wr) {w2 : World} {T' : Nat → Bool} (hg : wr.grownBy w2 (some g)) (hk : Wk g W H s pol draws spk w2) (ht : Tkn g T' w2) (hr : Qm.Rep (Pm.blackB W H s.data.toList) (fB W H s pol draws) T' (L.map (·.2)))
    (ha : Ahead (Pm.blackB W H s.data.toList) (fB W H s pol draws) (L.map (·.2)) (K + 1)) : FI g W H s pol draws spk X (K + 1) L T' vl w2 where
  canon := h.canon
  sorted := h.sorted
  past p hp := by have := h.past p hp; omega
  rep := hr
  ahead := ha
  wk := hk
  tkn := ht
  rowed := h.rowed.on (by omega) hg
  below := h.below.trans (gb_below_of hg (Nat.le_refl _) (Nat.le_of_lt h.wk.2.2.2.2.2.2))
  few := by have := h.few; omega

/-- To the next row. -/
theorem FI.row {y : Nat} (hw : W ≤ 32) (hh : H ≤ 32) (h : FI g W H s pol draws spk X (33 * (y : Int) + W + 1) L T vl wr) : FI g W H s pol draws spk X (33 * ((y + 1 : Nat) : Int)) L T vl wr where
  canon := h.canon
  sorted := h.sorted
  past p hp := by have := h.past p hp; omega
  rep := h.rep
  ahead t ht hk hu := h.ahead t ht (by
    have hb := Qm.side_in (Qm.pic_of W H s.data.toList hw hh) ht
    unfold Qm.key at *
    omega) hu
  wk := h.wk
  tkn := h.tkn
  rowed := h.rowed
  below := h.below
  few := by have := h.few; omega

/-- All rows have been seen. -/
theorem FI.res {K : Int} (hw : W ≤ 32) (hh : H ≤ 32) (h : FI g W H s pol draws spk X K L T vl wr) (hK : 33 * ((H : Int) + 1) ≤ K) : Qm.Res (fB W H s pol draws) (bB W H s) Qm.key (L.map (·.2)) := by
  have st := Qm.step (Qm.pic_of W H s.data.toList hw hh) (Qm.jnB W H s.data.toList pol draws.data.toList)
  refine ⟨fun c hc => ?_, h.sorted, Qm.all_taken st h.cyc fun t ht hu => h.ahead t ht ?_ hu⟩
  · obtain ⟨p, hp, rfl⟩ := List.mem_map.1 hc
    exact h.canon p hp
  · have hb := Qm.side_in (Qm.pic_of W H s.data.toList hw hh) ht
    unfold Qm.key
    omega

/-- A cycle more: walked (w2), reckoned (w3), written behind the others (w4). -/
theorem FI.found {K : Int} (h : FI g W H s pol draws spk X K L T vl wr) {w2 w3 w4 : World} {T' : Nat → Bool} {v vl' : Value} {s0 : Qm.Sd} {n : Nat} {o : Obj}
    (hg : wr.grownBy w2 (some g)) (hk : Wk g W H s pol draws spk w2) (ht : Tkn g T' w2) (hr : Qm.Rep (Pm.blackB W H s.data.toList) (fB W H s pol draws) T' (L.map (·.2) ++ [(s0, n)]))
    (ha : Ahead (Pm.blackB W H s.data.toList) (fB W H s pol draws) (L.map (·.2) ++ [(s0, n)]) (K + 1)) (hc : Qm.Canon (fB W H s pol draws) (bB W H s) Qm.key (s0, n)) (hK : Qm.key s0 = K)
    (ho : w2.ownsRow wr.heap.size 47 2 v n (Qm.ptsV (Qm.ptsOf (fB W H s pol draws) (s0, n)))) (hn : 0 < n) (b3 : Below w2.heap.size w2 w3)
    (o4 : w4.ownsRow (g + 1) 43 2 vl' (L.length + 1) (shpV (fB W H s pol draws) L ++ [v, .int .i64 (Qm.twiceOf (Qm.ptsOf (fB W H s pol draws) (s0, n)))])) (g4 : (w3.alloc o).grownBy w4 vl.ownBlock) (e4 : vl'.ownBlock = vl.ownBlock ∨ vl'.ownBlock = some (w3.heap.size + 1)) :
    FI g W H s pol draws spk X (K + 1) (L ++ [(v, s0, n)]) T' vl' w4 := by
  have gz := h.wk.2.2.2.2.2.2
  have z2 := hg.size
  have z3 := b3.size
  have vb : ∃ k, v.ownBlock = some k ∧ wr.heap.size ≤ k ∧ k < w2.heap.size := by
    obtain ⟨k, cap, e, hb, hp, _⟩ := own_at ho hn
    exact ⟨k, by rw [e]; rfl, hb, hp.1⟩
  obtain ⟨k, vk, k1, k2⟩ := vb
  have vlne : ∀ q, vl.ownBlock = some q → g + 1 ≤ q ∧ q < wr.heap.size := fun q hq => h.rowed.row.lt q hq
  have b24 : Below (g + 1) w2 w4 := (b3.mono (by omega)).trans (((Below.refl _ _).alloc (by omega) _).grown g4 (by simp; omega) (fun q hq => (vlne q hq).1))
  have keep : ∀ {u : Value} {m : Nat} {xs : List Value} {b : Nat}, w2.ownsRow b 47 2 u m xs → (u.ownBlock = .none ∨ u.ownBlock ≠ vl.ownBlock) → w4.ownsRow b 47 2 u m xs := fun hu hne =>
    (own_below hu (b3.trans ((Below.refl _ _).alloc (by omega) o))).kept g4 hne
  have pl : ∀ p ∈ L, w2.ownsRow (g + 1) 47 2 p.1 p.2.2 (Qm.ptsV (Qm.ptsOf (fB W H s pol draws) p.2)) := fun p hp => own_keep (h.rowed.pts p hp) (by omega) hg
  have ap := List.pairwise_cons.1 h.rowed.apart
  have pn : ∀ p ∈ L, p.1.ownBlock = .none ∨ p.1.ownBlock ≠ vl.ownBlock := fun p hp => by
    rcases ap.1 p.1 (List.mem_map_of_mem hp) with e | e
    · cases hpb : p.1.ownBlock with
      | none => exact .inl rfl
      | some q => right; rw [e]; simp
    · exact .inr (Ne.symm e)
  have plt : ∀ p ∈ L, ∀ q, p.1.ownBlock = some q → q < wr.heap.size := fun p hp q hq => ((h.rowed.pts p hp).lt q hq).2
  have vne : v.ownBlock ≠ vl.ownBlock := fun e => by rw [vk] at e; have := vlne k e.symm; omega
  refine ⟨?_, ?_, ?_, by rw [List.map_append]; exact hr, by rw [List.map_append]; exact ha, hk.onB b24 (by omega), ht.on b24 (by omega), ⟨?_, ?_, ?_⟩, ?_, ?_⟩
  · intro p hp
    rcases List.mem_append.1 hp with hp | hp
    · exact h.canon p hp
    · rw [List.mem_singleton] at hp; subst hp; exact hc
  · rw [List.map_append]
    refine List.pairwise_append.2 ⟨h.sorted, by simp, fun a ha b hb => ?_⟩
    obtain ⟨p, hp, rfl⟩ := List.mem_map.1 ha
    simp only [List.map_cons, List.map_nil, List.mem_singleton] at hb
    subst hb
    rw [hK]
    exact h.past p hp
  · intro p hp
    rcases List.mem_append.1 hp with hp | hp
    · have := h.past p hp; omega
    · rw [List.mem_singleton] at hp; subst hp; show Qm.key s0 < _; omega
  · rw [shpV_snoc, List.length_append]; exact o4
  · intro p hp
    rcases List.mem_append.1 hp with hp | hp
    · exact keep (pl p hp) (pn p hp)
    · rw [List.mem_singleton] at hp; subst hp
      exact keep (ho.mono (by omega)) (.inr vne)
  · rw [List.map_append]
    refine List.pairwise_cons.2 ⟨fun a ha => ?_, List.pairwise_append.2 ⟨ap.2, by simp, fun a ha b hb => ?_⟩⟩
    · right
      intro e
      have hlt : ∃ q, vl'.ownBlock = some q := by
        rcases o4.2 with ⟨_, h0⟩ | ⟨g', cap', _, e', _⟩
        · omega
        · exact ⟨g', by rw [e']; rfl⟩
      obtain ⟨q, hq⟩ := hlt
      rcases List.mem_append.1 ha with ha | ha
      · obtain ⟨p, hp, rfl⟩ := List.mem_map.1 ha
        rcases e4 with e4 | e4
        · rcases pn p hp with e5 | e5
          · rw [e5, hq] at e; cases e
          · exact e5 (e.symm.trans e4)
        · have := plt p hp _ (e.symm.trans e4); omega
      · simp only [List.map_cons, List.map_nil, List.mem_singleton] at ha
        subst ha
        rcases e4 with e4 | e4
        · exact vne (e.symm.trans e4)
        · rw [e4, vk] at e; injection e with e; omega
    · obtain ⟨p, hp, rfl⟩ := List.mem_map.1 ha
      simp only [List.map_cons, List.map_nil, List.mem_singleton] at hb
      rw [hb]
      cases hpb : p.1.ownBlock with
      | none => exact .inl rfl
      | some q => right; intro e; have e2 : v.ownBlock = some q := e.symm; rw [vk] at e2; injection e2 with e2; have := plt p hp q hpb; omega
  · exact h.below.trans ((gb_below_of hg (Nat.le_refl _) (by omega)).trans (b24.mono (by omega)))
  · have := h.few; simp; omega
end
end Go.Proofs.Ytljfiefobnncaaa

/- outlineref.Sides. -/
namespace Go.Proofs.Ytljfiefobnncaaa
open Go.RowKit

theorem sdsV_app (a b : List Qm.Sd) : sdsV (a ++ b) = sdsV a ++ sdsV b := by simp [sdsV]

/-- A row that is owned, behind a row that is owned: what the law of append asks of what is appended. -/
theorem own_src {w : World} {b : Nat} {t : TypeId} {z : Nat} {v : Value} {n : Nat} {xs : List Value} (h : w.ownsRow b t z v n xs) (hn : 0 < n) : ∃ g cap, v = .slice (some ⟨g, 0, none⟩) n cap ∧ ∀ j u, xs[j]? = some u → w.cell? ((⟨g, 0, none⟩ : Addr).add j) = some u := by
  rcases h.2 with ⟨_, h0⟩ | ⟨g, cap, cur, rfl, _⟩
  · omega
  · exact ⟨g, cap, rfl, fun j u hu => h.cells (g := g) rfl j u hu⟩

theorem sds_one (l : List Qm.Sd) : ∀ u ∈ sdsV l, u.oneCell' = true := by
  intro u hu
  simp only [sdsV, List.mem_flatMap] at hu
  obtain ⟨s, _, hs⟩ := hu
  simp only [sdV, List.mem_cons, List.not_mem_nil, or_false] at hs
  rcases hs with rfl | rfl | rfl | rfl <;> rfl

/-- Nothing is appended. -/
theorem wpList_append_nothing {P : Program} {ops : Array Oper} {rest : List Oper} {o : Oper} {a : Act} {w : World} {Q : Exit → Act → World → Prop} (hgd : o.guard = none) (s x : Operand) (t : TypeId)
    (ho : o.op = .call { callee := .builtin .append, args := #[s, x], argTypes := #[t, t] }) (e : TypeId) (i : TypeInfo) (ht : P.underlying t = some (.slice e)) (hi : P.info? e = some i)
    (base : Option Addr) (n cap : Nat) (hle : n ≤ cap) (X : Value) (hs : a.eval s = .slice base n cap) (hx : a.eval x = X) (hsrc : Src P i.size t X 0 [] w)
    (h : wpList P ops Q rest (a.put o.dst (.slice base n cap)) w) : wpList P ops Q (o :: rest) a w := by
  refine wpList_plain hgd fun K hK => ?_
  have hr := run_append_nothing (P := P) w t t o.type e i ht hi base n cap hle X hsrc
  unfold Oper.wp execOp
  simp only [ho, resolve, invoke, builtin, Sem.run_bind, Sem.run_pure, Result.andThen_ok, List.map_toArray, List.map_cons, List.map_nil, hs, hx, hr]
  exact hK _ _ h
/-- An empty row that is owned yields nothing. -/
theorem own_src0 {P : Program} {w : World} {b : Nat} {t e : TypeId} {z : Nat} {v : Value} {xs : List Value} {ts : TypeId} (h : w.ownsRow b t z v 0 xs) (hk : P.underlying ts = some (.slice e)) (size : Nat) : Src P size ts v 0 [] w := by
  rcases h.2 with ⟨rfl, _⟩ | ⟨g, cap, cur, rfl, _⟩
  · exact Src.ofNil _ hk 0
  · exact Src.ofSlice _ hk ⟨g, 0, none⟩ 0 cap [] (by simp) (by simp) (by simp)
theorem own_cap {w : World} {b : Nat} {t : TypeId} {z : Nat} {v : Value} {n : Nat} {xs : List Value} (h : w.ownsRow b t z v n xs) : ∃ ao cap, v = .slice ao n cap ∧ n ≤ cap := by
  rcases h.2 with ⟨rfl, rfl⟩ | ⟨g, cap, cur, rfl, _, _, hc, _⟩
  · exact ⟨_, _, rfl, Nat.le_refl _⟩
  · exact ⟨_, _, rfl, hc⟩

theorem pix_mul (W y x : Nat) (hx : x < W) : (y * W + x) % W = x ∧ (y * W + x) / W = y := by
  constructor
  · rw [Nat.add_comm, Nat.add_mul_mod_self_right, Nat.mod_eq_of_lt hx]
  · rw [Nat.add_comm, Nat.add_mul_div_right _ _ (by omega), Nat.div_eq_of_lt hx]; omega

set_option maxHeartbeats 2000000 in
theorem refSides_any (W H : Nat) (s : ByteArray) (w : World) (hw1 : 1 ≤ W) (hw2 : W ≤ 32) (hh2 : H ≤ 32) (hl : s.size = W * H) :
    Calls Try.prog 52 #[.agg #[.int .i64 W, .int .i64 H, .string s]] w fun e w' => ∃ v, e = .returned v ∧ w'.ownsRow w.heap.size 87 4 v (Qm.sidesTo (Pm.blackB W H s.data.toList) W (W * H)).length (sdsV (Qm.sidesTo (Pm.blackB W H s.data.toList) W (W * H))) ∧ Below w.heap.size w w' := by
  obtain ⟨i0, hi, hz0, hz1, hz2⟩ := info_parts infoSide
  have HL := hid hl
  clear hl
  go_enter Try.func52, Try.ntmps52
  go_wp2
  go_loopw [3, 4] (fun v yv wr => ∃ (y : Nat), y ≤ H ∧ yv = .int .i64 y ∧ Hid (wr.ownsRow (w.heap.size + 1) 87 4 v (Qm.sidesTo (Pm.blackB W H s.data.toList) W (y * W)).length (sdsV (Qm.sidesTo (Pm.blackB W H s.data.toList) W (y * W)))) ∧ Inb w.heap.size W H s w wr) (fun _ y _ => H - (intOf y).toNat)
  case atStart => exact ⟨0, by omega, rfl, hid (by simpa [Qm.sidesTo, sdsV] using World.ownsRow_nil _ _ _ _), ⟨by simp, by simp, by simp, by go_grown, by simp⟩⟩
  case round =>
    obtain ⟨y, hy, rfl, ho, hI⟩ := hrel
    have HI := hid hI
    obtain ⟨c0, c1, c2, -, hz⟩ := hI
    by_cases hlt : y < H
    · go_wp2
      go_loopw [3, 5] (fun v xv wr => ∃ (x : Nat), x ≤ W ∧ xv = .int .i64 x ∧ Hid (wr.ownsRow (w.heap.size + 1) 87 4 v (Qm.sidesTo (Pm.blackB W H s.data.toList) W (y * W + x)).length (sdsV (Qm.sidesTo (Pm.blackB W H s.data.toList) W (y * W + x)))) ∧ Inb w.heap.size W H s w wr) (fun _ x _ => W - (intOf x).toNat)
      case atStart => exact ⟨0, by omega, rfl, by simpa using ho, HI.out⟩
      case round =>
        clear c0 c1 c2 hz ho HI
        obtain ⟨x, hx, rfl, ho, hI⟩ := hrel
        have HI := hid hI
        obtain ⟨c0, c1, c2, -, hz⟩ := hI
        by_cases hxt : x < W
        · have pm := pix_mul W y x hxt
          have bnd : y * W + x < 1024 := by
            have : (y + 1) * W ≤ 32 * 32 := Nat.mul_le_mul (by omega) hw2
            rw [Nat.add_mul] at this; omega
          have hlen := Qm.len_sidesTo (Pm.blackB W H s.data.toList) W (y * W + x)
          have PX : Hid (Qm.pixL (Pm.blackB W H s.data.toList) W (y * W + x) = if Pm.blackB W H s.data.toList (x : Nat) (y : Nat) then Qm.arL (Pm.blackB W H s.data.toList) (x : Nat) (y : Nat) else []) := by
            show _ = _
            unfold Qm.pixL
            rw [pm.1, pm.2]
          obtain ⟨m, hm⟩ : ∃ m, m = y * W + x := ⟨_, rfl⟩
          rw [← hm] at ho hlen PX bnd
          have HM := hid hm
          have ST : Hid (Qm.sidesTo (Pm.blackB W H s.data.toList) W (m + 1) = Qm.sidesTo (Pm.blackB W H s.data.toList) W m ++ Qm.pixL (Pm.blackB W H s.data.toList) W m) := rfl
          clear hm pm
          cases hq : Pm.blackB W H s.data.toList (x : Nat) (y : Nat)
          · go_wp2_with (go_at_call 71; refine (black_any W H s _ _ _ hw2 hh2 HL.out).mono ?_; rintro e w' ⟨rfl, rfl⟩; rw [hq])
            go_roundw
            case rel => exact ⟨x + 1, by omega, by go_num, hid (by rw [← Nat.add_assoc, ← HM.out, ST.out, PX.out, hq]; simpa using own_below ho.out ((Below.refl _ _).alloc (Nat.le_refl _) _)), HI.out.alloc _⟩
            case measure => simp [intOf]; omega
          · go_wp2_with (go_at_call 71; refine (black_any W H s _ _ _ hw2 hh2 HL.out).mono ?_; rintro e w' ⟨rfl, rfl⟩; rw [hq])
            refine (around_any W H s x y (by omega) (by omega) _ hw2 hh2 HL.out).mono ?_
            rintro e w1 ⟨va, rfl, oa, ba⟩
            have al := Qm.len_arL (Pm.blackB W H s.data.toList) x y
            have SO := hid (sds_one (Qm.arL (Pm.blackB W H s.data.toList) x y))
            have O1 := hid (own_below (ho.out.alloc _) ba)
            have I1 := hid ((HI.out.alloc _).on ba)
            have BA := hid ba
            have z1 := ba.size
            simp at z1
            obtain ⟨n, hn⟩ : ∃ n, n = (Qm.arL (Pm.blackB W H s.data.toList) x y).length := ⟨_, rfl⟩
            rw [← hn] at oa al
            have HN := hid hn
            clear ba hn c0 c1 c2
            by_cases h0 : 0 < n
            · obtain ⟨ga, ca, rfl, hcells⟩ := own_src oa h0
              have OA := hid oa
              have HC := hid hcells
              have n1 : (Qm.sidesTo (Pm.blackB W H s.data.toList) W m).length + n ≤ maxLen := by unfold maxLen; omega
              have n2 : ((Qm.sidesTo (Pm.blackB W H s.data.toList) W m).length + n) * 32 ≤ 140737488355328 := by omega
              have n3 : w.heap.size + 1 ≤ w1.heap.size := by omega
              have nl := hid (show (sdsV (Qm.arL (Pm.blackB W H s.data.toList) x y)).length = n * 4 by rw [sdsV_len, HN.out])
              clear oa hcells
              go_wp2_with (first
                | (at_builtin; refine wpList_append_own _ rfl _ _ 83 rfl (w.heap.size + 1) 87 i0 (.agg #[.int .i64 0, .int .i64 0, .int .i64 0, .int .i64 0]) 4 32 Try.underlying83 hi hz0 hz1 hz2 rfl (by decide) _ _ _ rfl O1.out ⟨ga, 0, none⟩ n ca (sdsV (Qm.arL (Pm.blackB W H s.data.toList) x y)) rfl nl.out HC.out SO.out n1 n2 n3 ?_))
              intro v' w2 o2 g2 _
              have B2 : Below (w.heap.size + 1) w1 w2 := (Below.refl _ _).grown g2 n3 (fun k hk => (O1.out.lt k hk).1)
              have I2 := hid (show Inb w.heap.size W H s w w2 from by
                obtain ⟨d0, d1, d2, d3, d4⟩ := I1.out
                exact ⟨(B2.cell (p := ⟨w.heap.size, 0, none⟩) (by simp)).trans d0, (B2.cell (p := ⟨w.heap.size, 1, none⟩) (by simp)).trans d1, (B2.cell (p := ⟨w.heap.size, 2, none⟩) (by simp)).trans d2, d3.trans (B2.mono (by omega)), Nat.lt_of_lt_of_le d4 B2.size⟩)
              have O2 := hid o2
              clear o2 g2 B2
              go_wp2
              go_roundw
              case rel => exact ⟨x + 1, by omega, by go_num, hid (by rw [← Nat.add_assoc, ← HM.out, ST.out, PX.out, hq]; simpa only [if_true, List.length_append, sdsV_app, ← HN.out] using O2.out), I2.out⟩
              case measure => simp [intOf]; omega
            · have e0 : n = 0 := by omega
              subst e0
              have SR := hid (own_src0 (P := Try.prog) (ts := 83) oa Try.underlying83 i0.size)
              obtain ⟨ao, cap, rfl, hcap⟩ := own_cap O1.out
              have E0 : Hid (Qm.arL (Pm.blackB W H s.data.toList) x y = []) := List.length_eq_zero_iff.1 HN.out.symm
              clear oa
              go_wp2_with (first
                | (at_builtin; refine wpList_append_nothing rfl _ _ 83 rfl 87 i0 Try.underlying83 hi ao _ cap hcap va rfl rfl SR.out ?_))
              go_roundw
              case rel => exact ⟨x + 1, by omega, by go_num, by rw [← Nat.add_assoc, ← HM.out, ST.out, PX.out, hq, if_pos rfl, E0.out, List.append_nil]; exact O1.out, I1.out⟩
              case measure => simp [intOf]; omega
        · have e1 : x = W := by omega
          have E : Hid (y * W + x = (y + 1) * W) := by show _ = _; rw [e1, Nat.add_mul]; omega
          go_wp2
          go_roundw
          case rel => exact ⟨y + 1, by omega, by go_num, by rw [← E.out]; exact ho.out, HI.out⟩
          case measure => simp [intOf]; omega
    · have e1 : y = H := by omega
      have E := hid (show W * H = y * W by rw [e1, Nat.mul_comm])
      go_wp2
      go_ret
      exact ⟨_, rfl, by rw [E.out]; exact ho.out.mono (base' := w.heap.size) (by omega), HI.out.2.2.2.1⟩
end Go.Proofs.Ytljfiefobnncaaa

/- Which of the sides that begin where another ends is the next: by their bends. Nothing of the program stands here. -/
namespace Go.Proofs.Ytljfiefobnncaaa
theorem best_bend : ∀ (j nw ne se sw : Bool) (d e : Fin 4), Qm.inQ nw ne se sw d = true → Qm.outQ nw ne se sw e = true → e.val ≠ Qm.nextD j nw ne se sw d →
    (j = true → bendD d e < bendD d (Qm.nextD j nw ne se sw d)) ∧ (j = false → bendD d (Qm.nextD j nw ne se sw d) < bendD d e) := by decide

/-- Does the later one win? -/
def winB (j : Bool) (old now : Int) : Bool := (j && decide (old < now)) || (!j && decide (now < old))

theorem win_next {bl jn : Int → Int → Bool} {s t : Qm.Sd} (hs : Qm.isS bl s = true) (ht : Qm.isS bl t = true) (hp : Qm.fromP t = Qm.en s) (hne : t ≠ Qm.nx bl jn s) :
    winB (jn (Qm.en s).1 (Qm.en s).2) (bendD s.2.2 t.2.2) (bendD s.2.2 (Qm.nx bl jn s).2.2) = true ∧ winB (jn (Qm.en s).1 (Qm.en s).2) (bendD s.2.2 (Qm.nx bl jn s).2.2) (bendD s.2.2 t.2.2) = false := by
  have h1 := Qm.isS_lt hs
  have h2 := Qm.isS_lt ht
  have hi := hs
  rw [Qm.isS_in] at hi
  have e1 : t.1 = (Qm.en s).1 := congrArg Prod.fst hp
  have e2 : t.2.1 = (Qm.en s).2 := congrArg Prod.snd hp
  have ho := ht
  unfold Qm.isS at ho
  rw [e1, e2] at ho
  have hd : t.2.2 ≠ (Qm.nx bl jn s).2.2 := fun e => hne (Prod.ext e1 (Prod.ext e2 e))
  have b := best_bend (jn (Qm.en s).1 (Qm.en s).2) _ _ _ _ ⟨s.2.2, h1⟩ ⟨t.2.2, h2⟩ hi ho hd
  have bb : (jn (Qm.en s).1 (Qm.en s).2 = true → bendD s.2.2 t.2.2 < bendD s.2.2 (Qm.nx bl jn s).2.2) ∧ (jn (Qm.en s).1 (Qm.en s).2 = false → bendD s.2.2 (Qm.nx bl jn s).2.2 < bendD s.2.2 t.2.2) := b
  generalize bendD s.2.2 t.2.2 = u at *
  generalize bendD s.2.2 (Qm.nx bl jn s).2.2 = v at *
  unfold winB
  cases hj : jn (Qm.en s).1 (Qm.en s).2
  · have := bb.2 hj
    simp; omega
  · have := bb.1 hj
    simp; omega

/-- What is known of the best of the first k: none yet, or one that begins where s ends; the next side itself once it has been seen. -/
def Best (SL : List Qm.Sd) (p : Int × Int) (kf k : Nat) (bi : Int) : Prop :=
  (bi = -1 ∧ k ≤ kf) ∨ ∃ b : Nat, bi = b ∧ b < k ∧ Qm.fromP (SL.getD b (0, 0, 0)) = p ∧ (kf < k → b = kf)

theorem Best.skip {SL : List Qm.Sd} {p : Int × Int} {kf k : Nat} {bi : Int} (h : Best SL p kf k bi) (hkf : Qm.fromP (SL.getD kf (0, 0, 0)) = p) (hn : Qm.fromP (SL.getD k (0, 0, 0)) ≠ p) : Best SL p kf (k + 1) bi := by
  have hne : k ≠ kf := fun e => hn (by rw [e]; exact hkf)
  rcases h with ⟨h1, h2⟩ | ⟨b, h1, h2, h3, h4⟩
  · exact .inl ⟨h1, by omega⟩
  · exact .inr ⟨b, h1, by omega, h3, fun _ => h4 (by omega)⟩
theorem Best.first {SL : List Qm.Sd} {p : Int × Int} {kf k : Nat} {bi : Int} (h : Best SL p kf k bi) (hb : bi < 0) (hk : Qm.fromP (SL.getD k (0, 0, 0)) = p) : Best SL p kf (k + 1) k := by
  rcases h with ⟨_, h2⟩ | ⟨b, h1, _⟩
  · exact .inr ⟨k, rfl, by omega, hk, fun _ => by omega⟩
  · omega
theorem Best.more {bl jn : Int → Int → Bool} {SL : List Qm.Sd} {s : Qm.Sd} {kf k b : Nat} (hall : ∀ j, j < SL.length → Qm.isS bl (SL.getD j (0, 0, 0)) = true) (hnd : ∀ i j, i < SL.length → j < SL.length → SL.getD i (0, 0, 0) = SL.getD j (0, 0, 0) → i = j)
    (hs : Qm.isS bl s = true) (hkf : kf < SL.length) (ef : SL.getD kf (0, 0, 0) = Qm.nx bl jn s) (hk : k < SL.length) (h : Best SL (Qm.en s) kf k b) (hp : Qm.fromP (SL.getD k (0, 0, 0)) = Qm.en s) :
    b < k ∧ ∀ r, winB (jn (Qm.en s).1 (Qm.en s).2) (bendD s.2.2 (SL.getD b (0, 0, 0)).2.2) (bendD s.2.2 (SL.getD k (0, 0, 0)).2.2) = r → Best SL (Qm.en s) kf (k + 1) (if r then k else b) := by
  rcases h with ⟨h1, h2⟩ | ⟨b', h1, h2, h3, h4⟩
  · omega
  · have hb' : b' = b := by omega
    subst hb'
    refine ⟨h2, fun r hr => ?_⟩
    rcases Nat.lt_trichotomy k kf with hlt | heq | hgt
    · cases r
      · exact .inr ⟨b', rfl, by omega, h3, fun _ => by omega⟩
      · exact .inr ⟨k, rfl, by omega, hp, fun _ => by omega⟩
    · subst heq
      have hne : SL.getD b' (0, 0, 0) ≠ Qm.nx bl jn s := fun e => by
        have := hnd b' k (by omega) hk (by rw [e, ef]); omega
      have := (win_next (jn := jn) hs (hall b' (by omega)) h3 hne).1
      rw [ef, this] at hr
      subst hr
      exact .inr ⟨k, rfl, by omega, hp, fun _ => rfl⟩
    · have hbk := h4 hgt
      subst hbk
      have hne : SL.getD k (0, 0, 0) ≠ Qm.nx bl jn s := fun e => by
        have := hnd k b' hk hkf (by rw [e, ef]); omega
      have := (win_next (jn := jn) hs (hall k hk) hp hne).2
      rw [ef, this] at hr
      subst hr
      exact .inr ⟨b', rfl, by omega, h3, fun _ => rfl⟩
theorem Best.done {SL : List Qm.Sd} {p : Int × Int} {kf : Nat} {bi : Int} (h : Best SL p kf SL.length bi) (hkf : kf < SL.length) : bi = kf := by
  rcases h with ⟨_, h2⟩ | ⟨b, h1, _, _, h4⟩
  · omega
  · rw [h1, h4 hkf]
end Go.Proofs.Ytljfiefobnncaaa
