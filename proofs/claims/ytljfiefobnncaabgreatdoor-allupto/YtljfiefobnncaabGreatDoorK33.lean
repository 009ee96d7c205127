import Derived.Test.YtljfiefobnncaabGreatDoorCards
import Derived.Test.YtljfiefobnncaabGreatDoorTie
import Derived.WalkKit
import Derived.WalkSpells
import Derived.WalkLawsBesides
import Derived.ProofKit
import Derived.OpenShut
import Derived.SizedLaws
import Derived.Deep.DeepHandedRow
import Derived.Lib.LaidTab
import Derived.Lib.SmallJoins
import Derived.Test.YtljfiefobnncaabGreatDoorRows
import Derived.Test.YtljfiefobnncaabGreatDoorK27
import Derived.Deep.SlicePairs
import Derived.Test.YtljfiefobnncaabGreatDoorKZa

/- What every law's closing wants: how a bitmap comes in, and the cells of the listed tables. -/
namespace Go.Proofs.YtljfiefobnncaabGreatDoor
open Go.ChangeShapes Go.WideShapes Go.ChangeAt Go.RowKit Go.Joins
open Go.ChangeMaps (open_string)

theorem own : ownKnob Tryz.prog.godebug = none := by kernel_rfl
theorem laidOut : laidOutB Tryz.prog = true := by kernel_rfl
theorem cellsBitmap : Tryz.prog.cellsOf 30 = 3 := by kernel_rfl

set_option maxRecDepth 100000 in
/-- A bitmap that comes in: two numbers and a text. -/
theorem open_bitmap {H : Type} {enc : TypeId × Value → H} {W : World} {base : Nat} {v : Value} {d : DataW H} {p : List MemPlace}
    (hv : Value.okWide Tryz.prog W .any base 30 v) (h : DataW.Trod enc Tryz.prog W 0 (fun _ => true) true 30 v d p) :
    ∃ (a b : Int) (s : ByteArray), v = .agg #[.int .i64 a, .int .i64 b, .string s] := by
  obtain ⟨c0, c1, c2, y0, y1, y2, m, rfl, -, -, hy0, hy1, hy2⟩ := open_agg3 Tryz.underlying30 (by kernel_rfl) cellsBitmap hv h
  obtain ⟨a, e0, -, -⟩ := DataW.trod_int Tryz.underlying3 hy0
  obtain ⟨b, e1, -, -⟩ := DataW.trod_int Tryz.underlying3 hy1
  obtain ⟨s, e2, -⟩ := DataW.trod_string Tryz.underlying9 hy2
  simp at e0 e1 e2
  subst e0 e1 e2
  exact ⟨a, b, s, rfl⟩

/-- The cells that a listed table's datum stands for. -/
def laidCells : DataW Unit → Array Value
  | .agg ds => (ds.map fun d => match d with | .lit (.int k n) => Value.int k n | _ => Value.bool false).toArray
  | _ => #[]
/-- A block with other cells. -/
def withCells (cs : Array Value) : Obj → Obj
  | .cells _ t frozen => .cells cs t frozen
  | o => o
end Go.Proofs.YtljfiefobnncaabGreatDoor

/- How a list of shapes comes in, and how much it holds. -/
namespace Go.Proofs.YtljfiefobnncaabGreatDoor
open Go.ChangeShapes Go.WideShapes Go.ChangeAt Go.RowKit Go.Deep

theorem weightsAll_memU {H : Type} {P : Program} {e : TypeId} : ∀ {ds : List (DataW H)} {d : DataW H}, d ∈ ds → ∀ n ∈ d.weights P e, n ∈ DataW.weightsAll P e ds
  | d0 :: ds, d, hd, n, hn => by
    simp only [DataW.weightsAll, List.mem_append]
    rcases List.mem_cons.1 hd with rfl | h
    · exact .inl hn
    · exact .inr (weightsAll_memU h n hn)
theorem bulk_one {H : Type} (d : DataW H) : 1 ≤ Rows.uptoBulk d := by
  cases d with
  | lit l => cases l <;> simp [Rows.uptoBulk]
  | _ => simp [Rows.uptoBulk]
theorem bulk_sum {H : Type} {α : Type} (a : α → Nat) (g : α → DataW H) : ∀ l : List α, (∀ i ∈ l, a i + 1 ≤ Rows.uptoBulk (g i)) → (l.map a).sum + l.length ≤ Rows.uptoBulkAll (l.map g)
  | [], _ => by simp [Rows.uptoBulkAll]
  | x :: l, h => by
    have h1 := h x (by simp)
    have h2 := bulk_sum a g l (fun i hi => h i (by simp [hi]))
    simp only [List.map_cons, List.sum_cons, List.length_cons, Rows.uptoBulkAll]
    omega
theorem cellsPtU : Tryz.prog.cellsOf 65 = 2 := by kernel_rfl
theorem cellsShU : Tryz.prog.cellsOf 67 = 2 := by kernel_rfl
theorem cellsIU : Tryz.prog.cellsOf 3 = 1 := by kernel_rfl
theorem cellsPtsU : Tryz.prog.cellsOf 43 = 1 := by kernel_rfl
theorem bytesPtU : Tryz.prog.bytesOf 65 = 16 := by kernel_rfl
theorem bytesShU : Tryz.prog.bytesOf 67 = 32 := by kernel_rfl
theorem at_plainU {W : World} {a : Addr} {v : Value} (h : W.cell? (a.add 0) = some v) : ∃ b off, a = ⟨b, off, none⟩ := by
  obtain ⟨b, off, spot⟩ := a
  have hspot : spot = none := by simpa [Addr.add] using World.cell?_spot h
  subst hspot
  exact ⟨b, off, rfl⟩

set_option maxRecDepth 100000 in
/-- A list of points. -/
theorem open_ptsU {H : Type} {enc : TypeId × Value → H} {W : World} {fuel : Nat} {v : Value} {x : DataW H × List MemPlace} (h : DataW.trod enc Tryz.prog W 0 (fun _ => true) true fuel 43 [v] = some x) (hsz : ∀ n ∈ x.1.weights Tryz.prog 43, n ≤ reachBytes) :
    ∃ (ap : Option Addr) (cp : Nat) (l : List (Int × Int)), v = .slice ap l.length cp ∧ l.length * 16 ≤ 140737488355328 ∧ l.length + 1 ≤ Rows.uptoBulk x.1 ∧ (l.length = 0 ∨ ∃ g q, ap = some ⟨g, q, none⟩ ∧ PtsO g q l W) := by
  rcases open_slice_pairs Tryz.underlying43 Tryz.underlying65 cellsPtU rfl rfl cellsIU cellsIU h with ⟨hcs, -⟩ | ⟨a, len, cap, m, fl, V0, V1, D0, D1, P0, P1, hcs, -, hle, hmx, hmm, rfl, hall⟩
  · injection hcs with hcs _
    subst hcs
    exact ⟨none, 0, [], rfl, by simp, by simpa using bulk_one x.1, .inl rfl⟩
  · injection hcs with hcs _
    subst hcs
    simp only [if_true] at hmm
    subst hmm
    have hw := hsz (len * 16 + (m - len) * 16) (by
      simp only [DataW.weights, Tryz.underlying43, bytesPtU, List.length_map, List.length_range]
      rw [← Nat.add_mul]
      exact List.mem_cons_self)
    have hr : reachBytes = 140737488351232 := by decide
    have each : ∀ i, i < len → ∃ p : Int × Int, W.cell? (a.add (i * 2)) = some (.int .i64 p.1) ∧ W.cell? (a.add (i * 2 + 1)) = some (.int .i64 p.2) := by
      intro i hi
      obtain ⟨k0, k1, k2, k3⟩ := hall i (by omega)
      obtain ⟨x, e0, -, -⟩ := DataW.trod_int Tryz.underlying3 k2
      obtain ⟨y, e1, -, -⟩ := DataW.trod_int Tryz.underlying3 k3
      injection e0 with e0 _
      injection e1 with e1 _
      exact ⟨(x, y), by rw [k0, e0], by rw [k1, e1]⟩
    obtain ⟨f, hf⟩ := choose_lt each
    have hbk : len + 1 ≤ Rows.uptoBulk (DataW.slice ((List.range len).map fun i => DataW.agg [D0 i, D1 i]) ((List.range (m - len)).map fun j => DataW.agg [D0 (len + j), D1 (len + j)])) := by
      have := bulk_sum (fun _ : Nat => 0) (fun i => DataW.agg [D0 i, D1 i]) (List.range len) (fun i _ => by have := bulk_one (DataW.agg [D0 i, D1 i]); omega)
      simp only [List.length_range] at this
      simp only [Rows.uptoBulk]
      omega
    refine ⟨some a, m, (List.range len).map f, by simp, by simp; omega, by simpa using hbk, ?_⟩
    by_cases h0 : len = 0
    · exact .inl (by simp [h0])
    · right
      obtain ⟨b, off, rfl⟩ := at_plainU (by have := (hf 0 (by omega)).1; simpa using this)
      have ea : ∀ k, (⟨b, off, none⟩ : Addr).add k = ⟨b, off + k, none⟩ := fun k => by unfold Addr.add; split <;> simp_all
      refine ⟨b, off, rfl, World.block_lt_of_cell? W _ (by have := (hf 0 (by omega)).1; rwa [ea] at this), fun j hj => ?_⟩
      simp only [List.length_map, List.length_range] at hj
      have e : ((List.range len).map f).getD j (0, 0) = f j := by simp [List.getD_eq_getElem?_getD, hj]
      have := hf j hj
      rw [ea, ea] at this
      rw [e, Nat.add_assoc]
      exact this

set_option maxRecDepth 100000 in
/-- A list of shapes. -/
theorem open_shapesU {H : Type} {enc : TypeId × Value → H} {W : World} {base : Nat} {v : Value} {d : DataW H} {p : List MemPlace} {ts : List TypeId} {ds : List (DataW H)} {k : Nat} (hsz : (DataW.weightsEach Tryz.prog ts ds).all (· ≤ reachBytes) = true) (ht : ts[k]? = some 33) (hd : ds[k]? = some d)
    (hv : Value.okWide Tryz.prog W .any base 33 v) (h : DataW.Trod enc Tryz.prog W 0 (fun _ => true) true 33 v d p) :
    ∃ (ao : Option Addr) (n cap : Nat) (L : List ShT), v = .slice ao n cap ∧ n = L.length ∧ n * 32 ≤ 140737488355328 ∧ (∀ i, (L.getD i sh0).1.length * 16 ≤ 140737488355328) ∧ (L.map fun s => s.1.length).sum + n + 1 ≤ Rows.uptoBulk d ∧ ShIs ao L W := by
  obtain ⟨ao, n, cap, rfl⟩ := okWide_slice Tryz.underlying33 hv
  obtain ⟨fuel, hf⟩ := h
  have hr : reachBytes = 140737488351232 := by decide
  have hle : ∀ m ∈ d.weights Tryz.prog 33, m ≤ reachBytes := fun m hm => by simpa using List.all_eq_true.1 hsz _ (DataW.weights_mem_each ht hd m hm)
  rcases open_slice_pairs Tryz.underlying33 Tryz.underlying67 cellsShU rfl rfl cellsPtsU cellsIU hf with ⟨hcs, -⟩ | ⟨a, len, cap', m, fl, V0, V1, D0, D1, P0, P1, hcs, -, hlc, hmx, hmm, hx, hall⟩
  · simp [Value.cells] at hcs
    obtain ⟨rfl, rfl, rfl⟩ := hcs
    exact ⟨none, 0, 0, [], rfl, rfl, by omega, fun i => by simp [sh0], by have := bulk_one d; simpa using this, .inl rfl⟩
  · simp [Value.cells] at hcs
    obtain ⟨rfl, rfl, rfl⟩ := hcs
    simp only [if_true] at hmm
    subst hmm
    obtain ⟨rfl, rfl⟩ := Prod.mk.inj hx
    have hw := hle (n * 32 + (m - n) * 32) (by
      simp only [DataW.weights, Tryz.underlying33, bytesShU, List.length_map, List.length_range]
      rw [← Nat.add_mul]
      exact List.mem_cons_self)
    have each : ∀ i, i < n → ∃ s : ShT, (∃ ap cp, W.cell? (a.add (i * 2)) = some (.slice ap s.1.length cp) ∧ W.cell? (a.add (i * 2 + 1)) = some (.int .i64 s.2) ∧ (s.1.length = 0 ∨ ∃ g q, ap = some ⟨g, q, none⟩ ∧ PtsO g q s.1 W)) ∧ s.1.length * 16 ≤ 140737488355328 ∧ s.1.length + 1 ≤ Rows.uptoBulk (D0 i) := by
      intro i hi
      obtain ⟨k0, k1, k2, k3⟩ := hall i (by omega)
      obtain ⟨tw, e1, -, -⟩ := DataW.trod_int Tryz.underlying3 k3
      injection e1 with e1 _
      obtain ⟨ap, cp, l, e0, hl, hbl, hp⟩ := open_ptsU k2 (fun q hq => hle q (by
        simp only [DataW.weights, Tryz.underlying33]
        refine List.mem_cons_of_mem _ (List.mem_append_left _ ?_)
        refine weightsAll_memU (d := .agg [D0 i, D1 i]) (List.mem_map.2 ⟨i, List.mem_range.2 hi, rfl⟩) q ?_
        simp only [DataW.weights, Tryz.underlying67]
        exact List.mem_append_left _ hq))
      exact ⟨(l, tw), ⟨ap, cp, by rw [k0, e0], by rw [k1, e1], hp⟩, hl, hbl⟩
    obtain ⟨f, hf2⟩ := choose_lt (α := ShT) each
    have eg : ∀ i, i < n → ((List.range n).map f).getD i sh0 = f i := fun i hi => by simp [List.getD_eq_getElem?_getD, hi]
    have hbk : (((List.range n).map f).map fun s => s.1.length).sum + n + 1 ≤ Rows.uptoBulk (DataW.slice ((List.range n).map fun i => DataW.agg [D0 i, D1 i]) ((List.range (m - n)).map fun j => DataW.agg [D0 (n + j), D1 (n + j)])) := by
      have := bulk_sum (fun i : Nat => (f i).1.length) (fun i => DataW.agg [D0 i, D1 i]) (List.range n) (fun i hi => by
        have := (hf2 i (List.mem_range.1 hi)).2.2
        simp only [Rows.uptoBulk, Rows.uptoBulkAll]
        omega)
      rw [List.map_map]
      simp only [List.length_range] at this
      simp only [Rows.uptoBulk, Function.comp_def]
      omega
    refine ⟨some a, n, m, (List.range n).map f, rfl, by simp, by omega, fun i => ?_, hbk, ?_⟩
    · by_cases hi : i < n
      · rw [eg i hi]; exact (hf2 i hi).2.1
      · have : ((List.range n).map f).getD i sh0 = sh0 := by simp [List.getD_eq_getElem?_getD, hi]
        rw [this]; simp [sh0]
    · by_cases h0 : n = 0
      · exact .inl (by simp [h0])
      · right
        obtain ⟨ap, cp, hc, -⟩ := (hf2 0 (by omega)).1
        obtain ⟨b, off, rfl⟩ := at_plainU (by simpa using hc)
        have ea : ∀ k, (⟨b, off, none⟩ : Addr).add k = ⟨b, off + k, none⟩ := fun k => by unfold Addr.add; split <;> simp_all
        refine ⟨b, off, rfl, World.block_lt_of_cell? W _ (by rwa [ea] at hc), fun i hi => ?_⟩
        simp only [List.length_map, List.length_range] at hi
        obtain ⟨⟨ap, cp, x1, x2, x3⟩, -⟩ := hf2 i hi
        rw [ea] at x1 x2
        rw [eg i hi]
        exact ⟨ap, cp, x1, by rw [Nat.add_assoc]; exact x2, x3⟩
end Go.Proofs.YtljfiefobnncaabGreatDoor

/- outlinelaw: All. -/
namespace Go.Proofs.YtljfiefobnncaabGreatDoor
open Go.RowKit

def st0T : StepT := ⟨0, ⟨#[]⟩, 0, 0, ⟨#[]⟩, 0, ⟨#[]⟩, 0, [], 0, 0, 0⟩
/-- Step number i of a script lies there. -/
def StAt (g o i : Nat) (t : StepT) (w : World) : Prop :=
  ∃ (ap : Option Addr) (cp : Nat), (w.cell? ⟨g, o + i * 12, none⟩ = some (.int .i64 t.kind) ∧ w.cell? ⟨g, o + i * 12 + 1, none⟩ = some (.string t.s) ∧ w.cell? ⟨g, o + i * 12 + 2, none⟩ = some (.int .i64 t.bw) ∧ w.cell? ⟨g, o + i * 12 + 3, none⟩ = some (.int .i64 t.bh) ∧ w.cell? ⟨g, o + i * 12 + 4, none⟩ = some (.string t.bs) ∧ w.cell? ⟨g, o + i * 12 + 5, none⟩ = some (.int .i64 t.pol) ∧
    w.cell? ⟨g, o + i * 12 + 6, none⟩ = some (.string t.dr) ∧ w.cell? ⟨g, o + i * 12 + 7, none⟩ = some (.int .i64 t.spk) ∧ w.cell? ⟨g, o + i * 12 + 8, none⟩ = some (.slice ap t.L.length cp) ∧ w.cell? ⟨g, o + i * 12 + 9, none⟩ = some (.int .i64 t.W) ∧ w.cell? ⟨g, o + i * 12 + 10, none⟩ = some (.int .i64 t.H) ∧ w.cell? ⟨g, o + i * 12 + 11, none⟩ = some (.int .i64 t.R)) ∧ ShIs ap t.L w
def ScIs (ao : Option Addr) (T : List StepT) (w : World) : Prop :=
  T.length = 0 ∨ ∃ g o, ao = some ⟨g, o, none⟩ ∧ g < w.heap.size ∧ ∀ i, i < T.length → StAt g o i (T.getD i st0T) w
theorem StAt.on {g o i : Nat} {t : StepT} {w w' : World} (h : StAt g o i t w) (hg : g < w.heap.size) (hb : Below w.heap.size w w') : StAt g o i t w' := by
  obtain ⟨ap, cp, ⟨h0, h1, h2, h3, h4, h5, h6, h7, h8, h9, h10, h11⟩, hs⟩ := h
  have c : ∀ j, w'.cell? ⟨g, j, none⟩ = w.cell? ⟨g, j, none⟩ := fun j => hb.cell (p := ⟨g, j, none⟩) hg
  exact ⟨ap, cp, ⟨(c _).trans h0, (c _).trans h1, (c _).trans h2, (c _).trans h3, (c _).trans h4, (c _).trans h5, (c _).trans h6, (c _).trans h7, (c _).trans h8, (c _).trans h9, (c _).trans h10, (c _).trans h11⟩, hs.on hb⟩
/-- What may come in. -/
structure ScOk (T : List StepT) : Prop where
  txt : ∀ i, (T.getD i st0T).s.size ≤ 1048576
  few : ∀ i, (T.getD i st0T).L.length ≤ 1048576
  pts : ∀ i j, ((T.getD i st0T).L.getD j sh0).1.length ≤ 1048576
  pth : ∀ i, (Pm.pathL (ptsS (T.getD i st0T).L)).length ≤ 1073741824
  len : T.length ≤ 300000
  sum : (T.map fun t => t.s.size).sum ≤ 1048576
def txtTo (T : List StepT) (k : Nat) : Nat := ((T.take k).map fun t => t.s.size).sum
theorem txtTo_succ (T : List StepT) (k : Nat) (h : k < T.length) : txtTo T (k + 1) = txtTo T k + (T.getD k st0T).s.size := by
  unfold txtTo
  rw [List.take_succ_eq_append_getElem h, List.map_append, List.sum_append, List.getD_eq_getElem?_getD, List.getElem?_eq_getElem h]
  simp
theorem txtTo_le (T : List StepT) (k : Nat) : txtTo T k ≤ (T.map fun t => t.s.size).sum := by
  have e : (T.map fun t => t.s.size).sum = txtTo T k + ((T.drop k).map fun t => t.s.size).sum := by
    unfold txtTo
    rw [← List.sum_append, ← List.map_append, List.take_append_drop]
  omega
/-- The book lies apart from all that came in. -/
structure Away (b kb : Nat) (vp vs : Value) (w wr : World) : Prop where
  k : b ≤ kb
  p : ∀ q, vp.ownBlock = some q → b ≤ q
  s : ∀ q, vs.ownBlock = some q → b ≤ q
  bl : Below b w wr
theorem Away.step {b kb N m : Nat} {vp vs : Value} {w wr w2 : World} (h : Away b kb vp vs w wr) (hb : b ≤ wr.heap.size) (hs : StepOut kb N m vp vs wr w2) :
    ∃ N' vp' vs' P' S', OBook kb N' vp' vs' P' S' w2 ∧ N' ≤ N + m ∧ Away b kb vp' vs' w w2 := by
  obtain ⟨N', vp', vs', P', S', ho, hn, hf, kp, ks⟩ := hs
  refine ⟨N', vp', vs', P', S', ho, hn, h.k, fun q hq => ?_, fun q hq => ?_, h.bl.trans ⟨hf.os, hf.tape, hf.output, hf.size, fun k hk => hf.block k (by omega) (fun hc => ?_)⟩⟩
  · rcases kp with e | ⟨r, e, hr⟩
    · exact h.p q (by rw [← e]; exact hq)
    · rw [e] at hq; injection hq with hq; omega
  · rcases ks with e | ⟨r, e, hr⟩
    · exact h.s q (by rw [← e]; exact hq)
    · rw [e] at hq; injection hq with hq; omega
  · rcases hc with e | e | e
    · have := h.k; omega
    · have := h.p k e; omega
    · have := h.s k e; omega

set_option maxRecDepth 4000 in
set_option maxHeartbeats 2000000 in
theorem all_any (ao : Option Addr) (n cap : Nat) (T : List StepT) (hn : n = T.length) (hk : ScOk T) (w : World) (hS : ScIs ao T w) :
    Calls Tryz.prog 3 #[.slice ao n cap] w fun e w' => e = .returned (.bool true) ∧ Below w.heap.size w w' := by
  have HS := hid hS
  have HK := hid hk
  have HN := hid hn
  have nb : n ≤ 300000 := by have := hk.len; omega
  have RD := hid (fun W => reads_calls ⟨#[80, 49, 32, 49, 32, 49, 32, 49]⟩ (by decide) W)
  clear hS hk hn
  go_enter Tryz.func3, Tryz.ntmps3
  go_wp2_with fail
  have O0 := hid (OBook.newP w.heap.size (w.alloc (.cells #[.int .i64 0, .slice none 0 0, .slice none 0 0] 27)) (by simp) (by simp [go_sem]) (by simp [go_sem]) (by simp [go_sem]) (fun j => by simp [go_sem]))
  have A0 := hid (show Away w.heap.size w.heap.size (.slice none 0 0) (.slice none 0 0) w (w.alloc (.cells #[.int .i64 0, .slice none 0 0, .slice none 0 0] 27)) from ⟨Nat.le_refl _, fun q hq => by simp [Value.ownBlock] at hq, fun q hq => by simp [Value.ownBlock] at hq, by go_grown⟩)
  go_loopw [4] (fun iv wr => ∃ (i N : Nat) (vp vs : Value) (P S : List Rec), i ≤ n ∧ iv = .int .i64 i ∧ N ≤ 1201 * i + txtTo T i ∧ Hid (OBook w.heap.size N vp vs P S wr) ∧ Hid (Away w.heap.size w.heap.size vp vs w wr)) (fun i _ => n - (intOf i).toNat)
  case atStart => exact ⟨0, 0, _, _, [], [], by omega, rfl, by omega, O0, A0⟩
  case round =>
    clear O0 A0
    obtain ⟨i, N, vp, vs, P, S, hi, rfl, hNb, hO, hA⟩ := hrel
    have hz := hA.out.bl.size
    by_cases hlt : i < n
    · obtain ⟨g, o, rfl, hg, hc⟩ := HS.out.resolve_left (by have := HN.out; omega)
      have hat := (hc i (by have := HN.out; omega)).on hg hA.out.bl
      have TS := hid (txtTo_succ T i (by have := HN.out; omega))
      have TL := hid (Nat.le_trans (txtTo_le T i) HK.out.sum)
      have b1 := HK.out.txt i
      have b2 := HK.out.few i
      have b3 := hid (HK.out.pts i)
      have b4 := HK.out.pth i
      obtain ⟨t, ht⟩ : ∃ t, t = T.getD i st0T := ⟨_, rfl⟩
      rw [← ht] at hat TS b1 b2 b3 b4
      obtain ⟨ap, cp, ⟨h0, h1, h2, h3, h4, h5, h6, h7, h8, h9, h10, h11⟩, hs⟩ := hat
      have SA := hid (step1_any w.heap.size N vp vs P S t ap t.L.length cp wr hO.out (by have := TL.out; omega) (by omega) rfl (by omega) (fun j => by have := b3.out j; omega) b4 hs)
      obtain ⟨kind, s, bw, bh, bs, pol, dr, spk, L, W, H, R⟩ := t
      dsimp only at h0 h1 h2 h3 h4 h5 h6 h7 h8 h9 h10 h11 SA TS b1
      obtain ⟨m, hm⟩ : ∃ m, m = L.length := ⟨_, rfl⟩
      rw [← hm] at h8 SA
      have i0' : (0 : Int) ≤ (i : Nat) := by omega
      have i1' : ((i : Nat) : Int) < (n : Nat) := by omega
      clear hc ht hs hm b2 b3 b4
      go_wp2_with fail
      refine SA.out.mono ?_
      rintro e w2 ⟨rfl, hst⟩
      obtain ⟨N', vp', vs', P', S', ho, hn', ha⟩ := hA.out.step hz hst
      have OB := hid ho
      have AW := hid ha
      have z2 := ha.bl.size
      clear ho ha hst
      go_wp2_with fail
      refine (looks_any _ _ _ _ _ _ _ OB.out.book).mono ?_
      rintro e w3 ⟨rfl, b3⟩
      have OB3 := hid (OB.out.below b3)
      have AW3 := hid (show Away w.heap.size w.heap.size vp' vs' w w3 from ⟨AW.out.k, AW.out.p, AW.out.s, AW.out.bl.trans (b3.mono z2)⟩)
      have NB := hid (show N' ≤ 1201 * (i + 1) + txtTo T (i + 1) by rw [TS.out]; omega)
      clear b3
      go_wp2
      go_roundw
      case rel => exact ⟨i + 1, N', vp', vs', P', S', by omega, by go_num, NB.out, OB3, AW3⟩
      case measure => simp [intOf]; omega
    · have hk' : ((n : Nat) : Int) ≤ (i : Nat) := by omega
      go_wp2_with fail
      refine (RD.out _).mono ?_
      rintro e w2 ⟨rfl, b2⟩
      have B2 := hid (show Below w.heap.size w w2 from hA.out.bl.trans (b2.mono hz))
      clear b2
      go_wp2
      go_ret
      exact ⟨rfl, B2.out⟩

end Go.Proofs.YtljfiefobnncaabGreatDoor

/- How a script comes in. -/
namespace Go.Proofs.YtljfiefobnncaabGreatDoor
open Go.ChangeShapes Go.WideShapes Go.ChangeAt Go.RowKit Go.Deep

theorem cellsStep : Tryz.prog.cellsOf 35 = 12 := by kernel_rfl
theorem cellsBmp : Tryz.prog.cellsOf 30 = 3 := by kernel_rfl
theorem cellsOpt : Tryz.prog.cellsOf 32 = 3 := by kernel_rfl
theorem cellsStr : Tryz.prog.cellsOf 9 = 1 := by kernel_rfl
theorem cellsShs : Tryz.prog.cellsOf 33 = 1 := by kernel_rfl

set_option maxRecDepth 100000 in
/-- A list of shapes, within something. -/
theorem open_shapesC {H : Type} {enc : TypeId × Value → H} {W : World} {fuel : Nat} {v : Value} {x : DataW H × List MemPlace} (hf : DataW.trod enc Tryz.prog W 0 (fun _ => true) true fuel 33 [v] = some x) (hle : ∀ m ∈ x.1.weights Tryz.prog 33, m ≤ reachBytes) :
    ∃ (ao : Option Addr) (cap : Nat) (L : List ShT), v = .slice ao L.length cap ∧ (∀ i, (L.getD i sh0).1.length * 16 ≤ 140737488355328) ∧ (L.map fun s => s.1.length).sum + L.length + 1 ≤ Rows.uptoBulk x.1 ∧ ShIs ao L W := by
  rcases open_slice_pairs Tryz.underlying33 Tryz.underlying67 cellsShU rfl rfl cellsPtsU cellsIU hf with ⟨hcs, -⟩ | ⟨a, n, cap', m, fl, V0, V1, D0, D1, P0, P1, hcs, -, hlc, hmx, hmm, hx, hall⟩
  · injection hcs with hcs _
    subst hcs
    exact ⟨none, 0, [], rfl, fun i => by simp [sh0], by have := bulk_one x.1; simpa using this, .inl rfl⟩
  · injection hcs with hcs _
    subst hcs
    simp only [if_true] at hmm
    subst hmm
    subst hx
    have each : ∀ i, i < n → ∃ s : ShT, (∃ ap cp, W.cell? (a.add (i * 2)) = some (.slice ap s.1.length cp) ∧ W.cell? (a.add (i * 2 + 1)) = some (.int .i64 s.2) ∧ (s.1.length = 0 ∨ ∃ g q, ap = some ⟨g, q, none⟩ ∧ PtsO g q s.1 W)) ∧ s.1.length * 16 ≤ 140737488355328 ∧ s.1.length + 1 ≤ Rows.uptoBulk (D0 i) := by
      intro i hi
      obtain ⟨k0, k1, k2, k3⟩ := hall i (by omega)
      obtain ⟨tw, e1, -, -⟩ := DataW.trod_int Tryz.underlying3 k3
      injection e1 with e1 _
      obtain ⟨ap, cp, l, e0, hl, hbl, hp⟩ := open_ptsU k2 (fun q hq => hle q (by
        simp only [DataW.weights, Tryz.underlying33]
        refine List.mem_cons_of_mem _ (List.mem_append_left _ ?_)
        refine weightsAll_memU (d := .agg [D0 i, D1 i]) (List.mem_map.2 ⟨i, List.mem_range.2 hi, rfl⟩) q ?_
        simp only [DataW.weights, Tryz.underlying67]
        exact List.mem_append_left _ hq))
      exact ⟨(l, tw), ⟨ap, cp, by rw [k0, e0], by rw [k1, e1], hp⟩, hl, hbl⟩
    obtain ⟨f, hf2⟩ := choose_lt (α := ShT) each
    have eg : ∀ i, i < n → ((List.range n).map f).getD i sh0 = f i := fun i hi => by simp [List.getD_eq_getElem?_getD, hi]
    have hbk : (((List.range n).map f).map fun s => s.1.length).sum + n + 1 ≤ Rows.uptoBulk (DataW.slice ((List.range n).map fun i => DataW.agg [D0 i, D1 i]) ((List.range (m - n)).map fun j => DataW.agg [D0 (n + j), D1 (n + j)])) := by
      have := bulk_sum (fun i : Nat => (f i).1.length) (fun i => DataW.agg [D0 i, D1 i]) (List.range n) (fun i hi => by
        have := (hf2 i (List.mem_range.1 hi)).2.2
        simp only [Rows.uptoBulk, Rows.uptoBulkAll]
        omega)
      rw [List.map_map]
      simp only [List.length_range] at this
      simp only [Rows.uptoBulk, Function.comp_def]
      omega
    refine ⟨some a, m, (List.range n).map f, by simp, fun i => ?_, by simpa using hbk, ?_⟩
    · by_cases hi : i < n
      · rw [eg i hi]; exact (hf2 i hi).2.1
      · have : ((List.range n).map f).getD i sh0 = sh0 := by simp [List.getD_eq_getElem?_getD, hi]
        rw [this]; simp [sh0]
    · by_cases h0 : n = 0
      · exact .inl (by simp [h0])
      · right
        obtain ⟨ap, cp, hc, -⟩ := (hf2 0 (by omega)).1
        obtain ⟨b, off, rfl⟩ := at_plainU (by simpa using hc)
        have ea : ∀ k, (⟨b, off, none⟩ : Addr).add k = ⟨b, off + k, none⟩ := fun k => by unfold Addr.add; split <;> simp_all
        refine ⟨b, off, rfl, World.block_lt_of_cell? W _ (by rwa [ea] at hc), fun i hi => ?_⟩
        simp only [List.length_map, List.length_range] at hi
        obtain ⟨⟨ap, cp, x1, x2, x3⟩, -⟩ := hf2 i hi
        rw [ea] at x1 x2
        rw [eg i hi]
        exact ⟨ap, cp, x1, by rw [Nat.add_assoc]; exact x2, x3⟩

set_option maxRecDepth 100000 in
/-- A bitmap's three cells. -/
theorem open_bmpC {H : Type} {enc : TypeId × Value → H} {W : World} {fuel : Nat} {cs : List Value} {x : DataW H × List MemPlace} (h : DataW.trod enc Tryz.prog W 0 (fun _ => true) true fuel 30 cs = some x) :
    ∃ (a b : Int) (s : ByteArray), cs = [.int .i64 a, .int .i64 b, .string s] := by
  obtain ⟨xs, n, rfl, -, hl, hxl, hf⟩ := DataW.trod_struct Tryz.underlying30 h
  rw [cellsBmp] at hl
  have g0 : DataW.trod enc Tryz.prog W 0 (fun _ => true) true n 3 ((cs.drop 0).take (Tryz.prog.cellsOf 3)) = xs[0]? := hf 0 _ rfl
  have g1 : DataW.trod enc Tryz.prog W 0 (fun _ => true) true n 3 ((cs.drop 1).take (Tryz.prog.cellsOf 3)) = xs[1]? := hf 1 _ rfl
  have g2 : DataW.trod enc Tryz.prog W 0 (fun _ => true) true n 9 ((cs.drop 2).take (Tryz.prog.cellsOf 9)) = xs[2]? := hf 2 _ rfl
  rw [cellsIU] at g0 g1
  rw [cellsStr] at g2
  match xs, hxl, cs, hl with
  | [y0, y1, y2], _, [c0, c1, c2], _ =>
    obtain ⟨a, e0, -, -⟩ := DataW.trod_int Tryz.underlying3 (show DataW.trod enc Tryz.prog W 0 (fun _ => true) true n 3 [c0] = some y0 from g0)
    obtain ⟨b, e1, -, -⟩ := DataW.trod_int Tryz.underlying3 (show DataW.trod enc Tryz.prog W 0 (fun _ => true) true n 3 [c1] = some y1 from g1)
    obtain ⟨s, e2, -⟩ := DataW.trod_string Tryz.underlying9 (show DataW.trod enc Tryz.prog W 0 (fun _ => true) true n 9 [c2] = some y2 from g2)
    injection e0 with e0 _
    injection e1 with e1 _
    injection e2 with e2 _
    exact ⟨a, b, s, by rw [e0, e1, e2]⟩

set_option maxRecDepth 100000 in
/-- Options' three cells. -/
theorem open_optC {H : Type} {enc : TypeId × Value → H} {W : World} {fuel : Nat} {cs : List Value} {x : DataW H × List MemPlace} (h : DataW.trod enc Tryz.prog W 0 (fun _ => true) true fuel 32 cs = some x) :
    ∃ (a : Int) (s : ByteArray) (b : Int), cs = [.int .i64 a, .string s, .int .i64 b] := by
  obtain ⟨xs, n, rfl, -, hl, hxl, hf⟩ := DataW.trod_struct Tryz.underlying32 h
  rw [cellsOpt] at hl
  have g0 : DataW.trod enc Tryz.prog W 0 (fun _ => true) true n 3 ((cs.drop 0).take (Tryz.prog.cellsOf 3)) = xs[0]? := hf 0 _ rfl
  have g1 : DataW.trod enc Tryz.prog W 0 (fun _ => true) true n 9 ((cs.drop 1).take (Tryz.prog.cellsOf 9)) = xs[1]? := hf 1 _ rfl
  have g2 : DataW.trod enc Tryz.prog W 0 (fun _ => true) true n 3 ((cs.drop 2).take (Tryz.prog.cellsOf 3)) = xs[2]? := hf 2 _ rfl
  rw [cellsIU] at g0 g2
  rw [cellsStr] at g1
  match xs, hxl, cs, hl with
  | [y0, y1, y2], _, [c0, c1, c2], _ =>
    obtain ⟨a, e0, -, -⟩ := DataW.trod_int Tryz.underlying3 (show DataW.trod enc Tryz.prog W 0 (fun _ => true) true n 3 [c0] = some y0 from g0)
    obtain ⟨s, e1, -⟩ := DataW.trod_string Tryz.underlying9 (show DataW.trod enc Tryz.prog W 0 (fun _ => true) true n 9 [c1] = some y1 from g1)
    obtain ⟨b, e2, -, -⟩ := DataW.trod_int Tryz.underlying3 (show DataW.trod enc Tryz.prog W 0 (fun _ => true) true n 3 [c2] = some y2 from g2)
    injection e0 with e0 _
    injection e1 with e1 _
    injection e2 with e2 _
    exact ⟨a, s, b, by rw [e0, e1, e2]⟩

set_option maxRecDepth 100000 in
set_option maxHeartbeats 1000000 in
/-- A step's twelve cells. -/
theorem open_stepC {H : Type} {enc : TypeId × Value → H} {W : World} {fuel : Nat} {cs : List Value} {x : DataW H × List MemPlace} (h : DataW.trod enc Tryz.prog W 0 (fun _ => true) true fuel 35 cs = some x) (hsz : ∀ m ∈ x.1.weights Tryz.prog 35, m ≤ reachBytes) :
    ∃ (t : StepT) (ap : Option Addr) (cp : Nat), cs = [.int .i64 t.kind, .string t.s, .int .i64 t.bw, .int .i64 t.bh, .string t.bs, .int .i64 t.pol, .string t.dr, .int .i64 t.spk, .slice ap t.L.length cp, .int .i64 t.W, .int .i64 t.H, .int .i64 t.R] ∧ ShIs ap t.L W ∧ t.s.size + (t.L.map fun s => s.1.length).sum + t.L.length + 8 ≤ Rows.uptoBulk x.1 := by
  obtain ⟨xs, n, rfl, hx, hl, hxl, hf⟩ := DataW.trod_struct Tryz.underlying35 h
  rw [cellsStep] at hl
  have g0 : DataW.trod enc Tryz.prog W 0 (fun _ => true) true n 3 ((cs.drop 0).take (Tryz.prog.cellsOf 3)) = xs[0]? := hf 0 _ rfl
  have g1 : DataW.trod enc Tryz.prog W 0 (fun _ => true) true n 9 ((cs.drop 1).take (Tryz.prog.cellsOf 9)) = xs[1]? := hf 1 _ rfl
  have g2 : DataW.trod enc Tryz.prog W 0 (fun _ => true) true n 30 ((cs.drop 2).take (Tryz.prog.cellsOf 30)) = xs[2]? := hf 2 _ rfl
  have g3 : DataW.trod enc Tryz.prog W 0 (fun _ => true) true n 32 ((cs.drop 5).take (Tryz.prog.cellsOf 32)) = xs[3]? := hf 3 _ rfl
  have g4 : DataW.trod enc Tryz.prog W 0 (fun _ => true) true n 33 ((cs.drop 8).take (Tryz.prog.cellsOf 33)) = xs[4]? := hf 4 _ rfl
  have g5 : DataW.trod enc Tryz.prog W 0 (fun _ => true) true n 3 ((cs.drop 9).take (Tryz.prog.cellsOf 3)) = xs[5]? := hf 5 _ rfl
  have g6 : DataW.trod enc Tryz.prog W 0 (fun _ => true) true n 3 ((cs.drop 10).take (Tryz.prog.cellsOf 3)) = xs[6]? := hf 6 _ rfl
  have g7 : DataW.trod enc Tryz.prog W 0 (fun _ => true) true n 3 ((cs.drop 11).take (Tryz.prog.cellsOf 3)) = xs[7]? := hf 7 _ rfl
  rw [cellsIU] at g0 g5 g6 g7
  rw [cellsStr] at g1
  rw [cellsBmp] at g2
  rw [cellsOpt] at g3
  rw [cellsShs] at g4
  clear hf h
  match xs, hxl, cs, hl with
  | [y0, y1, y2, y3, y4, y5, y6, y7], _, [c0, c1, c2, c3, c4, c5, c6, c7, c8, c9, c10, c11], _ =>
    subst hx
    obtain ⟨kind, e0, -, -⟩ := DataW.trod_int Tryz.underlying3 (show DataW.trod enc Tryz.prog W 0 (fun _ => true) true n 3 [c0] = some y0 from g0)
    obtain ⟨s, e1, f1, -⟩ := DataW.trod_string Tryz.underlying9 (show DataW.trod enc Tryz.prog W 0 (fun _ => true) true n 9 [c1] = some y1 from g1)
    obtain ⟨bw, bh, bs, e2⟩ := open_bmpC (show DataW.trod enc Tryz.prog W 0 (fun _ => true) true n 30 [c2, c3, c4] = some y2 from g2)
    obtain ⟨pol, dr, spk, e3⟩ := open_optC (show DataW.trod enc Tryz.prog W 0 (fun _ => true) true n 32 [c5, c6, c7] = some y3 from g3)
    obtain ⟨ap, cp, L, e4, hm, hb, hS⟩ := open_shapesC (show DataW.trod enc Tryz.prog W 0 (fun _ => true) true n 33 [c8] = some y4 from g4) (fun m hm => hsz m (by
      simp only [DataW.weights, Tryz.underlying35]
      exact DataW.weights_mem_each (j := 4) (t := 33) (d := y4.1) rfl rfl m hm))
    obtain ⟨wW, e5, -, -⟩ := DataW.trod_int Tryz.underlying3 (show DataW.trod enc Tryz.prog W 0 (fun _ => true) true n 3 [c9] = some y5 from g5)
    obtain ⟨hH, e6, -, -⟩ := DataW.trod_int Tryz.underlying3 (show DataW.trod enc Tryz.prog W 0 (fun _ => true) true n 3 [c10] = some y6 from g6)
    obtain ⟨rR, e7, -, -⟩ := DataW.trod_int Tryz.underlying3 (show DataW.trod enc Tryz.prog W 0 (fun _ => true) true n 3 [c11] = some y7 from g7)
    injection e0 with e0 _
    injection e1 with e1 _
    injection e2 with e2a e2
    injection e2 with e2b e2
    injection e2 with e2c _
    injection e3 with e3a e3
    injection e3 with e3b e3
    injection e3 with e3c _
    injection e5 with e5 _
    injection e6 with e6 _
    injection e7 with e7 _
    refine ⟨⟨kind, s, bw, bh, bs, pol, dr, spk, L, wW, hH, rR⟩, ap, cp, ?_, hS, ?_⟩
    · simp only [e0, e1, e2a, e2b, e2c, e3a, e3b, e3c, e4, e5, e6, e7]
    · have b0 := bulk_one y0.1
      have b2 := bulk_one y2.1
      have b3 := bulk_one y3.1
      have b5 := bulk_one y5.1
      have b6 := bulk_one y6.1
      have b7 := bulk_one y7.1
      have b1 : Rows.uptoBulk y1.1 = s.size + 1 := by rw [f1]; simp [Rows.uptoBulk]
      simp only [List.map_cons, List.map_nil, Rows.uptoBulk, Rows.uptoBulkAll]
      omega

theorem sum_bulk {H : Type} {α : Type} (a : α → Nat) (g : α → DataW H) : ∀ l : List α, (∀ i ∈ l, a i + 8 ≤ Rows.uptoBulk (g i)) → (l.map a).sum + 8 * l.length ≤ Rows.uptoBulkAll (l.map g)
  | [], _ => by simp [Rows.uptoBulkAll]
  | x :: l, h => by
    have h1 := h x (by simp)
    have h2 := sum_bulk a g l (fun i hi => h i (by simp [hi]))
    simp only [List.map_cons, List.sum_cons, List.length_cons, Rows.uptoBulkAll]
    omega
theorem path_bulkZ (L : List ShT) : (Pm.pathL (ptsS L)).length ≤ 6 * (L.map fun s => s.1.length).sum + L.length := by
  induction L with
  | nil => simp [ptsS, Pm.pathL]
  | cons s L ih =>
    have h := Pm.shP_len s.1
    have e : Pm.pathL (ptsS (s :: L)) = Pm.shL s.1 ++ Pm.pathL (ptsS L) := by simp [ptsS, Pm.pathL]
    rw [e]
    unfold Pm.shL
    simp only [List.length_append, List.length_cons, List.length_nil, List.map_cons, List.sum_cons]
    omega
theorem len_inZ {L : List ShT} (i : Nat) : (L.getD i sh0).1.length ≤ (L.map fun s => s.1.length).sum := by
  induction L generalizing i with
  | nil => simp [sh0]
  | cons s L ih =>
    cases i with
    | zero => simp
    | succ i => have := ih i; simp only [List.getD_cons_succ, List.map_cons, List.sum_cons]; omega

set_option maxRecDepth 100000 in
set_option maxHeartbeats 1000000 in
/-- A script. -/
theorem open_script {H : Type} {enc : TypeId × Value → H} {W : World} {base : Nat} {v : Value} {d : DataW H} {p : List MemPlace} {ts : List TypeId} {ds : List (DataW H)} {k : Nat} (hsz : (DataW.weightsEach Tryz.prog ts ds).all (· ≤ reachBytes) = true) (ht : ts[k]? = some 22) (hd : ds[k]? = some d)
    (hv : Value.okWide Tryz.prog W .any base 22 v) (h : DataW.Trod enc Tryz.prog W 0 (fun _ => true) true 22 v d p) (hbulk : Rows.uptoBulk d ≤ 1048576) :
    ∃ (ao : Option Addr) (n cap : Nat) (T : List StepT), v = .slice ao n cap ∧ n = T.length ∧ ScOk T ∧ ScIs ao T W := by
  obtain ⟨ao, n, cap, rfl⟩ := okWide_slice Tryz.underlying22 hv
  obtain ⟨fuel, hf⟩ := h
  have hle : ∀ m ∈ d.weights Tryz.prog 22, m ≤ reachBytes := fun m hm => by simpa using List.all_eq_true.1 hsz _ (DataW.weights_mem_each ht hd m hm)
  rcases open_slice Tryz.underlying22 hf with ⟨hcs, -⟩ | ⟨a, len, cap', m, fl, D, Pl, hcs, -, hlc, hmx, hmm, hx, hall⟩
  · simp [Value.cells] at hcs
    obtain ⟨rfl, rfl, rfl⟩ := hcs
    exact ⟨none, 0, 0, [], rfl, rfl, ⟨fun i => by simp [st0T]; decide, fun i => by simp [st0T], fun i j => by simp [st0T, sh0], fun i => by simp [st0T, ptsS, Pm.pathL], by simp, by simp⟩, .inl rfl⟩
  · simp [Value.cells] at hcs
    obtain ⟨rfl, rfl, rfl⟩ := hcs
    simp only [if_true] at hmm
    subst hmm
    obtain ⟨rfl, rfl⟩ := Prod.mk.inj hx
    have each : ∀ i, i < n → ∃ t : StepT, (∃ (ap : Option Addr) (cp : Nat) (cs : List Value), W.cells? 0 (a.add (i * 12)) 12 = some cs ∧ cs = [.int .i64 t.kind, .string t.s, .int .i64 t.bw, .int .i64 t.bh, .string t.bs, .int .i64 t.pol, .string t.dr, .int .i64 t.spk, .slice ap t.L.length cp, .int .i64 t.W, .int .i64 t.H, .int .i64 t.R] ∧ ShIs ap t.L W) ∧ t.s.size + (t.L.map fun s => s.1.length).sum + t.L.length + 8 ≤ Rows.uptoBulk (D i) := by
      intro i hi
      obtain ⟨cs, h1, h2⟩ := hall i (by omega)
      rw [cellsStep] at h1
      obtain ⟨t, ap, cp, e, hs, hb⟩ := open_stepC h2 (fun q hq => hle q (by
        simp only [DataW.weights, Tryz.underlying22]
        refine List.mem_cons_of_mem _ (List.mem_append_left _ ?_)
        exact weightsAll_memU (d := D i) (List.mem_map.2 ⟨i, List.mem_range.2 hi, rfl⟩) q hq))
      exact ⟨t, ⟨ap, cp, cs, h1, e, hs⟩, hb⟩
    haveI : Inhabited StepT := ⟨st0T⟩
    obtain ⟨f, hf2⟩ := choose_lt (α := StepT) each
    have eg : ∀ i, i < n → ((List.range n).map f).getD i st0T = f i := fun i hi => by simp [List.getD_eq_getElem?_getD, hi]
    have en : ∀ i, ¬ i < n → ((List.range n).map f).getD i st0T = st0T := fun i hi => by simp [List.getD_eq_getElem?_getD, hi]
    have hsum : (((List.range n).map f).map fun t => t.s.size).sum + 8 * n ≤ 1048576 := by
      have := sum_bulk (fun i : Nat => (f i).s.size) D (List.range n) (fun i hi => by have := (hf2 i (List.mem_range.1 hi)).2; omega)
      simp only [List.length_range] at this
      simp only [Rows.uptoBulk] at hbulk
      rw [List.map_map]
      simp only [Function.comp_def]
      omega
    have one : ∀ i, i < n → Rows.uptoBulk (D i) ≤ 1048576 := fun i hi => by
      have h3 : Rows.uptoBulk (D i) ≤ Rows.uptoBulkAll ((List.range n).map D) := by
        have key : ∀ (l : List Nat), i ∈ l → Rows.uptoBulk (D i) ≤ Rows.uptoBulkAll (l.map D) := by
          intro l
          induction l with
          | nil => intro h; cases h
          | cons y l ih =>
            intro h
            simp only [List.map_cons, Rows.uptoBulkAll]
            rcases List.mem_cons.1 h with rfl | h
            · omega
            · have := ih h; omega
        exact key _ (List.mem_range.2 hi)
      simp only [Rows.uptoBulk] at hbulk
      omega
    refine ⟨some a, n, m, (List.range n).map f, rfl, by simp, ⟨fun i => ?_, fun i => ?_, fun i j => ?_, fun i => ?_, by simp; omega, by omega⟩, ?_⟩
    · by_cases hi : i < n
      · rw [eg i hi]; have := (hf2 i hi).2; have := one i hi; omega
      · rw [en i hi]; simp [st0T]; decide
    · by_cases hi : i < n
      · rw [eg i hi]; have := (hf2 i hi).2; have := one i hi; omega
      · rw [en i hi]; simp [st0T]
    · by_cases hi : i < n
      · rw [eg i hi]; have := (hf2 i hi).2; have := one i hi; have := len_inZ (L := (f i).L) j; omega
      · rw [en i hi]; simp [st0T, sh0]
    · by_cases hi : i < n
      · rw [eg i hi]; have := (hf2 i hi).2; have := one i hi; have := path_bulkZ (f i).L; omega
      · rw [en i hi]; simp [st0T, ptsS, Pm.pathL]
    · by_cases h0 : n = 0
      · exact .inl (by simp [h0])
      · right
        obtain ⟨ap, cp, cs, hc, ec, -⟩ := (hf2 0 (by omega)).1
        have c0 := (World.cells?_some hc).2.2 0 (by omega)
        rw [ec] at c0
        obtain ⟨b, off, rfl⟩ := at_plainU (by simpa using c0)
        have ea : ∀ k, (⟨b, off, none⟩ : Addr).add k = ⟨b, off + k, none⟩ := fun k => by unfold Addr.add; split <;> simp_all
        refine ⟨b, off, rfl, World.block_lt_of_cell? W _ (by simpa using c0), fun i hi => ?_⟩
        simp only [List.length_map, List.length_range] at hi
        obtain ⟨ap, cp, cs, hc, ec, hs⟩ := (hf2 i hi).1
        have cc := (World.cells?_some hc).2.2
        rw [eg i hi]
        subst ec
        have ce : ∀ j, j < 12 → W.cell? ⟨b, off + i * 12 + j, none⟩ = [Value.int .i64 (f i).kind, .string (f i).s, .int .i64 (f i).bw, .int .i64 (f i).bh, .string (f i).bs, .int .i64 (f i).pol, .string (f i).dr, .int .i64 (f i).spk, .slice ap (f i).L.length cp, .int .i64 (f i).W, .int .i64 (f i).H, .int .i64 (f i).R][j]? := fun j hj => by
          have := cc j hj
          rwa [ea, ← ea, add_add, ea, ← Nat.add_assoc] at this
        exact ⟨ap, cp, ⟨ce 0 (by omega), ce 1 (by omega), ce 2 (by omega), ce 3 (by omega), ce 4 (by omega), ce 5 (by omega), ce 6 (by omega), ce 7 (by omega), ce 8 (by omega), ce 9 (by omega), ce 10 (by omega), ce 11 (by omega)⟩, hs⟩
end Go.Proofs.YtljfiefobnncaabGreatDoor
