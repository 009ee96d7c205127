/- How a list of shapes comes in, and how much it holds. -/
import Derived.Test.YtljfiefobnncaaaDoorRows
import Derived.Test.YtljfiefobnncaaaDoorK11
import Derived.Deep.SlicePairs
import Derived.SizedLaws
import Derived.OpenShut
namespace Go.Proofs.YtljfiefobnncaaaDoor
open Go.ChangeShapes Go.WideShapes Go.ChangeAt Go.RowKit Go.Deep

theorem weightsAll_memU {H : Type} {P : Program} {e : TypeId} : ∀ {ds : List (DataW H)} {d : DataW H}, d ∈ ds → ∀ n ∈ d.weights P e, n ∈ DataW.weightsAll P e ds
  | d0 :: ds, d, hd, n, hn => by
    simp only [DataW.weightsAll, List.mem_append]
    rcases List.mem_cons.1 hd with rfl | h
    · exact .inl hn
    · exact .inr (weightsAll_memU h n hn)
theorem bulk_one {H : Type} (d : DataW H) : 1 ≤ Rows.uptoBulk d := by
  cases d with
  | lit l => cases l <;> simp [Rows.uptoBulk]
  | _ => simp [Rows.uptoBulk]
theorem bulk_sum {H : Type} {α : Type} (a : α → Nat) (g : α → DataW H) : ∀ l : List α, (∀ i ∈ l, a i + 1 ≤ Rows.uptoBulk (g i)) → (l.map a).sum + l.length ≤ Rows.uptoBulkAll (l.map g)
  | [], _ => by simp [Rows.uptoBulkAll]
  | x :: l, h => by
    have h1 := h x (by simp)
    have h2 := bulk_sum a g l (fun i hi => h i (by simp [hi]))
    simp only [List.map_cons, List.sum_cons, List.length_cons, Rows.uptoBulkAll]
    omega
theorem cellsPtU : Tryd.prog.cellsOf 83 = 2 := by kernel_rfl
theorem cellsShU : Tryd.prog.cellsOf 81 = 2 := by kernel_rfl
theorem cellsIU : Tryd.prog.cellsOf 3 = 1 := by kernel_rfl
theorem cellsPtsU : Tryd.prog.cellsOf 62 = 1 := by kernel_rfl
theorem bytesPtU : Tryd.prog.bytesOf 83 = 16 := by kernel_rfl
theorem bytesShU : Tryd.prog.bytesOf 81 = 32 := by kernel_rfl
theorem at_plainU {W : World} {a : Addr} {v : Value} (h : W.cell? (a.add 0) = some v) : ∃ b off, a = ⟨b, off, none⟩ := by
  obtain ⟨b, off, spot⟩ := a
  have hspot : spot = none := by simpa [Addr.add] using World.cell?_spot h
  subst hspot
  exact ⟨b, off, rfl⟩

set_option maxRecDepth 100000 in
/-- A list of points. -/
theorem open_ptsU {H : Type} {enc : TypeId × Value → H} {W : World} {fuel : Nat} {v : Value} {x : DataW H × List MemPlace} (h : DataW.trod enc Tryd.prog W 0 (fun _ => true) true fuel 62 [v] = some x) (hsz : ∀ n ∈ x.1.weights Tryd.prog 62, n ≤ reachBytes) :
    ∃ (ap : Option Addr) (cp : Nat) (l : List (Int × Int)), v = .slice ap l.length cp ∧ l.length * 16 ≤ 140737488355328 ∧ l.length + 1 ≤ Rows.uptoBulk x.1 ∧ (l.length = 0 ∨ ∃ g q, ap = some ⟨g, q, none⟩ ∧ PtsO g q l W) := by
  rcases open_slice_pairs Tryd.underlying62 Tryd.underlying83 cellsPtU rfl rfl cellsIU cellsIU h with ⟨hcs, -⟩ | ⟨a, len, cap, m, fl, V0, V1, D0, D1, P0, P1, hcs, -, hle, hmx, hmm, rfl, hall⟩
  · injection hcs with hcs _
    subst hcs
    exact ⟨none, 0, [], rfl, by simp, by simpa using bulk_one x.1, .inl rfl⟩
  · injection hcs with hcs _
    subst hcs
    simp only [if_true] at hmm
    subst hmm
    have hw := hsz (len * 16 + (m - len) * 16) (by
      simp only [DataW.weights, Tryd.underlying62, bytesPtU, List.length_map, List.length_range]
      rw [← Nat.add_mul]
      exact List.mem_cons_self)
    have hr : reachBytes = 140737488351232 := by decide
    have each : ∀ i, i < len → ∃ p : Int × Int, W.cell? (a.add (i * 2)) = some (.int .i64 p.1) ∧ W.cell? (a.add (i * 2 + 1)) = some (.int .i64 p.2) := by
      intro i hi
      obtain ⟨k0, k1, k2, k3⟩ := hall i (by omega)
      obtain ⟨x, e0, -, -⟩ := DataW.trod_int Tryd.underlying3 k2
      obtain ⟨y, e1, -, -⟩ := DataW.trod_int Tryd.underlying3 k3
      injection e0 with e0 _
      injection e1 with e1 _
      exact ⟨(x, y), by rw [k0, e0], by rw [k1, e1]⟩
    obtain ⟨f, hf⟩ := choose_lt each
    have hbk : len + 1 ≤ Rows.uptoBulk (DataW.slice ((List.range len).map fun i => DataW.agg [D0 i, D1 i]) ((List.range (m - len)).map fun j => DataW.agg [D0 (len + j), D1 (len + j)])) := by
      have := bulk_sum (fun _ : Nat => 0) (fun i => DataW.agg [D0 i, D1 i]) (List.range len) (fun i _ => by have := bulk_one (DataW.agg [D0 i, D1 i]); omega)
      simp only [List.length_range] at this
      simp only [Rows.uptoBulk]
      omega
    refine ⟨some a, m, (List.range len).map f, by simp, by simp; omega, by simpa using hbk, ?_⟩
    by_cases h0 : len = 0
    · exact .inl (by simp [h0])
    · right
      obtain ⟨b, off, rfl⟩ := at_plainU (by have := (hf 0 (by omega)).1; simpa using this)
      have ea : ∀ k, (⟨b, off, none⟩ : Addr).add k = ⟨b, off + k, none⟩ := fun k => by unfold Addr.add; split <;> simp_all
      refine ⟨b, off, rfl, World.block_lt_of_cell? W _ (by have := (hf 0 (by omega)).1; rwa [ea] at this), fun j hj => ?_⟩
      simp only [List.length_map, List.length_range] at hj
      have e : ((List.range len).map f).getD j (0, 0) = f j := by simp [List.getD_eq_getElem?_getD, hj]
      have := hf j hj
      rw [ea, ea] at this
      rw [e, Nat.add_assoc]
      exact this

set_option maxRecDepth 100000 in
/-- A list of shapes. -/
theorem open_shapesU {H : Type} {enc : TypeId × Value → H} {W : World} {base : Nat} {v : Value} {d : DataW H} {p : List MemPlace} {ts : List TypeId} {ds : List (DataW H)} {k : Nat} (hsz : (DataW.weightsEach Tryd.prog ts ds).all (· ≤ reachBytes) = true) (ht : ts[k]? = some 35) (hd : ds[k]? = some d)
    (hv : Value.okWide Tryd.prog W .any base 35 v) (h : DataW.Trod enc Tryd.prog W 0 (fun _ => true) true 35 v d p) :
    ∃ (ao : Option Addr) (n cap : Nat) (L : List ShT), v = .slice ao n cap ∧ n = L.length ∧ n * 32 ≤ 140737488355328 ∧ (∀ i, (L.getD i sh0).1.length * 16 ≤ 140737488355328) ∧ (L.map fun s => s.1.length).sum + n + 1 ≤ Rows.uptoBulk d ∧ ShIs ao L W := by
  obtain ⟨ao, n, cap, rfl⟩ := okWide_slice Tryd.underlying35 hv
  obtain ⟨fuel, hf⟩ := h
  have hr : reachBytes = 140737488351232 := by decide
  have hle : ∀ m ∈ d.weights Tryd.prog 35, m ≤ reachBytes := fun m hm => by simpa using List.all_eq_true.1 hsz _ (DataW.weights_mem_each ht hd m hm)
  rcases open_slice_pairs Tryd.underlying35 Tryd.underlying81 cellsShU rfl rfl cellsPtsU cellsIU hf with ⟨hcs, -⟩ | ⟨a, len, cap', m, fl, V0, V1, D0, D1, P0, P1, hcs, -, hlc, hmx, hmm, hx, hall⟩
  · simp [Value.cells] at hcs
    obtain ⟨rfl, rfl, rfl⟩ := hcs
    exact ⟨none, 0, 0, [], rfl, rfl, by omega, fun i => by simp [sh0], by have := bulk_one d; simpa using this, .inl rfl⟩
  · simp [Value.cells] at hcs
    obtain ⟨rfl, rfl, rfl⟩ := hcs
    simp only [if_true] at hmm
    subst hmm
    obtain ⟨rfl, rfl⟩ := Prod.mk.inj hx
    have hw := hle (n * 32 + (m - n) * 32) (by
      simp only [DataW.weights, Tryd.underlying35, bytesShU, List.length_map, List.length_range]
      rw [← Nat.add_mul]
      exact List.mem_cons_self)
    have each : ∀ i, i < n → ∃ s : ShT, (∃ ap cp, W.cell? (a.add (i * 2)) = some (.slice ap s.1.length cp) ∧ W.cell? (a.add (i * 2 + 1)) = some (.int .i64 s.2) ∧ (s.1.length = 0 ∨ ∃ g q, ap = some ⟨g, q, none⟩ ∧ PtsO g q s.1 W)) ∧ s.1.length * 16 ≤ 140737488355328 ∧ s.1.length + 1 ≤ Rows.uptoBulk (D0 i) := by
      intro i hi
      obtain ⟨k0, k1, k2, k3⟩ := hall i (by omega)
      obtain ⟨tw, e1, -, -⟩ := DataW.trod_int Tryd.underlying3 k3
      injection e1 with e1 _
      obtain ⟨ap, cp, l, e0, hl, hbl, hp⟩ := open_ptsU k2 (fun q hq => hle q (by
        simp only [DataW.weights, Tryd.underlying35]
        refine List.mem_cons_of_mem _ (List.mem_append_left _ ?_)
        refine weightsAll_memU (d := .agg [D0 i, D1 i]) (List.mem_map.2 ⟨i, List.mem_range.2 hi, rfl⟩) q ?_
        simp only [DataW.weights, Tryd.underlying81]
        exact List.mem_append_left _ hq))
      exact ⟨(l, tw), ⟨ap, cp, by rw [k0, e0], by rw [k1, e1], hp⟩, hl, hbl⟩
    obtain ⟨f, hf2⟩ := choose_lt (α := ShT) each
    have eg : ∀ i, i < n → ((List.range n).map f).getD i sh0 = f i := fun i hi => by simp [List.getD_eq_getElem?_getD, hi]
    have hbk : (((List.range n).map f).map fun s => s.1.length).sum + n + 1 ≤ Rows.uptoBulk (DataW.slice ((List.range n).map fun i => DataW.agg [D0 i, D1 i]) ((List.range (m - n)).map fun j => DataW.agg [D0 (n + j), D1 (n + j)])) := by
      have := bulk_sum (fun i : Nat => (f i).1.length) (fun i => DataW.agg [D0 i, D1 i]) (List.range n) (fun i hi => by
        have := (hf2 i (List.mem_range.1 hi)).2.2
        simp only [Rows.uptoBulk, Rows.uptoBulkAll]
        omega)
      rw [List.map_map]
      simp only [List.length_range] at this
      simp only [Rows.uptoBulk, Function.comp_def]
      omega
    refine ⟨some a, n, m, (List.range n).map f, rfl, by simp, by omega, fun i => ?_, hbk, ?_⟩
    · by_cases hi : i < n
      · rw [eg i hi]; exact (hf2 i hi).2.1
      · have : ((List.range n).map f).getD i sh0 = sh0 := by simp [List.getD_eq_getElem?_getD, hi]
        rw [this]; simp [sh0]
    · by_cases h0 : n = 0
      · exact .inl (by simp [h0])
      · right
        obtain ⟨ap, cp, hc, -⟩ := (hf2 0 (by omega)).1
        obtain ⟨b, off, rfl⟩ := at_plainU (by simpa using hc)
        have ea : ∀ k, (⟨b, off, none⟩ : Addr).add k = ⟨b, off + k, none⟩ := fun k => by unfold Addr.add; split <;> simp_all
        refine ⟨b, off, rfl, World.block_lt_of_cell? W _ (by rwa [ea] at hc), fun i hi => ?_⟩
        simp only [List.length_map, List.length_range] at hi
        obtain ⟨⟨ap, cp, x1, x2, x3⟩, -⟩ := hf2 i hi
        rw [ea] at x1 x2
        rw [eg i hi]
        exact ⟨ap, cp, x1, by rw [Nat.add_assoc]; exact x2, x3⟩
end Go.Proofs.YtljfiefobnncaaaDoor
