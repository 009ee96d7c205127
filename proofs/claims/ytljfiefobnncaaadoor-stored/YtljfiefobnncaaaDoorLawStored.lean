/- The statement Stored holds: a bitmap built out of any numbers is written and read back, whatever stands behind it, its P1 file is read as it too, and half of its P4 file is no file; the statement's one condition is that the three tables of the library start as the program's text lays them, which the card ties. -/
import Derived.Test.YtljfiefobnncaaaDoorLawBase
import Derived.Test.YtljfiefobnncaaaDoorSd
namespace Go.Proofs.YtljfiefobnncaaaDoor
open Go.ChangeShapes Go.WideShapes Go.ChangeAt Go.RowKit Go.Joins
open Go.ChangeMaps (open_string shut_string)

theorem cellsInt : Tryd.prog.cellsOf 3 = 1 := by kernel_rfl
theorem bytesInt : Tryd.prog.bytesOf 3 = 8 := by kernel_rfl

set_option maxRecDepth 100000 in
theorem stored_contract (H : Type) (enc : TypeId × Value → H) (W : World) (base : Nat) (args : Array Value) (ds gs : List (DataW H)) (before : List MemPlace)
    (hval : ∀ (j : Nat) t v, Tryd.f5.params[j]? = some t → args[j]? = some v → Value.okWide Tryd.prog W .any base t v)
    (hW : DataW.Whole enc Tryd.prog Tryd.f5.params.toList Rows.storedSpec.vars false W args.toList ds gs before)
    (hsz0 : (DataW.weightsEach Tryd.prog (Tryd.f5.params.toList ++ (OpenSpec.ofChange Rows.storedSpec).bare.plain.varTypes Tryd.prog) (ds ++ gs)).all (· ≤ reachBytes) = true) :
    Calls Tryd.prog 5 args W fun e W' => ∃ v, e = .returned v ∧ Rows.storedSpec.post enc Tryd.prog Tryd.f5 false true false false W args v W' := by
  have hW' := hW
  obtain ⟨p, q, hA0, hV, rfl, hfz, hnd⟩ := hW
  have hA : DataW.TrodAll enc Tryd.prog W 0 (fun _ => true) true Tryd.f5.params.toList args.toList ds p := hA0
  rw [Tryd.params5] at hA hval hsz0
  obtain ⟨v0, vs0, d0, ds0, p0, q0, hargs, rfl, rfl, h0, r0⟩ := trodAll_cons hA
  obtain ⟨v1, vs1, d1, ds1, p1, q1, rfl, rfl, rfl, h1, r1⟩ := trodAll_cons r0
  obtain ⟨v2, vs2, d2, ds2, p2, q2, rfl, rfl, rfl, h2, r2⟩ := trodAll_cons r1
  obtain ⟨v3, vs3, d3, ds3, p3, q3, rfl, rfl, rfl, h3, r3⟩ := trodAll_cons r2
  obtain ⟨rfl, rfl, rfl⟩ := trodAll_nil r3
  obtain rfl : args = #[v0, v1, v2, v3] := by cases args; simp_all
  obtain ⟨rfl, rfl⟩ := trodVars_none hV
  have h0k := h0
  have h1k := h1
  have h2k := h2
  have h3k := h3
  obtain ⟨a, rfl, -, -, wa⟩ := open_int Tryd.underlying3 (hval 1 3 v1 rfl rfl) h1
  obtain ⟨b, rfl, -, -, wb⟩ := open_int Tryd.underlying3 (hval 2 3 v2 rfl rfl) h2
  obtain ⟨x, rfl, hd3, -, -⟩ := open_string Tryd.underlying9 (hval 3 9 v3 rfl rfl) h3
  subst hd3
  have ba := bounds_i64 wa
  have bb := bounds_i64 wb
  have hx0 := sized_string hsz0 (j := 3) (t := 9) rfl rfl
  have hx : x.size ≤ 140737488351232 := by
    have : reachBytes = 140737488351232 := by decide
    rw [Array.length_toList, this] at hx0
    exact hx0
  obtain ⟨ao, len, cap, rfl⟩ := okWide_slice Tryd.underlying31 (hval 0 31 v0 rfl rfl)
  have hraw : RawIs ao len W ∧ len ≤ 140737488355328 := by
    obtain ⟨fuel, hf⟩ := h0
    rcases open_ints Tryd.underlying31 Tryd.underlying3 cellsInt hf with ⟨hcs, -⟩ | ⟨ad, len', cap', zs, hcs, -, hl, hm, hz, hxx, hcell, -⟩
    · simp [Value.cells] at hcs
      obtain ⟨-, rfl, -⟩ := hcs
      exact ⟨.inl rfl, by omega⟩
    · simp [Value.cells] at hcs
      obtain ⟨rfl, rfl, rfl⟩ := hcs
      simp only [if_true] at hz
      obtain ⟨rfl, rfl⟩ := Prod.mk.inj hxx
      have hw := sized_slice hsz0 (j := 0) (t := 31) (e := 3) rfl rfl Tryd.underlying31
      rw [bytesInt] at hw
      have : reachBytes = 140737488351232 := by decide
      simp only [lits, List.length_map, List.length_take, List.length_drop, this] at hw
      refine ⟨?_, by omega⟩
      by_cases hp : len = 0
      · exact .inl hp
      · obtain ⟨bk, off, rfl, hc⟩ := ints_at hcell (by omega)
        refine .inr ⟨bk, off, rfl, ?_, fun j hj => ⟨_, hc j (by omega)⟩⟩
        exact World.block_lt_of_cell? W _ (hc 0 (by omega))
  clear hA0
  refine (stored_calls ao len cap a b x W hraw.1 hraw.2 ba.1 ba.2 bb.1 bb.2 hx).mono fun e W' ⟨he, hb⟩ => ?_
  subst he
  have hlt : ∀ y ∈ p0 ++ (p1 ++ (p2 ++ (p3 ++ []))), y.block < W.heap.size := fun y hy => by simpa using hW'.lt y (by simpa using hy)
  exact ⟨_, rfl, _, [], _, [], p0 ++ (p1 ++ (p2 ++ (p3 ++ []))), [], hW', trodAll_cons_mk (shut_bool Tryd.underlying4 _) trodAll_mk0,
    trodAll_cons_mk (Below.trod laidOut (by kernel_rfl) (of_decide_eq_true (by kernel_rfl)) h0k hb (fun y hy => hlt y (by simp [hy])))
      (trodAll_cons_mk (Below.trod laidOut (by kernel_rfl) (of_decide_eq_true (by kernel_rfl)) h1k hb (fun y hy => hlt y (by simp [hy])))
        (trodAll_cons_mk (Below.trod laidOut (by kernel_rfl) (of_decide_eq_true (by kernel_rfl)) h2k hb (fun y hy => hlt y (by simp [hy])))
          (trodAll_cons_mk (Below.trod laidOut (by kernel_rfl) (of_decide_eq_true (by kernel_rfl)) h3k hb (fun y hy => hlt y (by simp [hy]))) trodAll_mk0))), rfl, hb.frame _, fun h => by cases h⟩

set_option maxRecDepth 100000 in
theorem stored_lifted (os : Os) (started : os.Started) (H : Type) (enc : TypeId × Value → H) (F : Stop.Interp) :
    ReturnsInHanded {} Tryd.checked os 5 .any ((OpenSpec.ofChange Rows.storedSpec).preRow enc Tryd.prog Tryd.f5 Rows.storedRow.domain false Rows.storedRow.laid) (((OpenSpec.ofChange Rows.storedSpec).at F).post enc Tryd.prog Tryd.f5 false true false false) := by
  refine returnsInHanded_of_row (C := Tryd.checked) (s := OpenSpec.ofChange Rows.storedSpec) own started (by kernel_rfl) Tryd.func5
    (witness_row_at (enc := enc) (C := Tryd.checked) false
      { World.holding Tryd.prog os ⟨#[], #[], []⟩ with heap := (((World.holding Tryd.prog os ⟨#[], #[], []⟩).heap.modify 0 (withCells (laidCells Rows.laid_internal_strconv_uint64pow10))).modify 1 (withCells (laidCells Rows.laid_math_bits_deBruijn32tab))).modify 2 (withCells (laidCells Rows.laid_math_bits_deBruijn64tab)) }
      #[.slice none 0 0, .int .i64 0, .int .i64 0, .string ⟨#[]⟩] rfl (by kernel_rfl) (by kernel_rfl) (by kernel_rfl)
      (OpenSpec.preRow_of_cond 8 (x := ([.nil, .lit (.int .i64 0), .lit (.int .i64 0), .lit (.string [])], [], [])) (by kernel_rfl) (by kernel_rfl) (fun k hk => by cases hk) (by kernel_rfl) (laidMet_of_run' 8 (by kernel_rfl) (by kernel_rfl)))) ?_
  intro W base args ds gs before hval hW _ _ hsz _ _ _
  exact stored_contract H enc W base args ds gs before hval hW hsz

set_option maxRecDepth 100000 in
theorem stored_said : Rows.StoredSaid :=
  OpenClaim.holds_of_cond 5 Tryd.f5 rfl rfl rfl rfl rfl rfl rfl ⟨rfl, rfl, rfl, rfl, rfl⟩ rfl rfl rfl rfl rfl (by kernel_rfl) Tryd.func5 (by kernel_rfl)
    (of_decide_eq_true (by kernel_rfl)) (by unfold Func.isWrapper; first | (rw [if_pos (by decide +kernel)]; kernel_rfl) | (rw [if_neg (by decide +kernel)]; exact ⟨rfl, rfl⟩))
    (fun os started H enc _ F => by rw [OpenClaim.pre_eq_preRow]; exact stored_lifted os started H enc F)

set_option maxRecDepth 100000 in
theorem stored_plain (f : FuncId) (fn : Func) (hf : Tryd.pinned.checked.prog.funcNamed "outline/outlinekeep.Stored" = some f) (hfn : Tryd.pinned.checked.prog.funcs[f]? = some fn) :
    false = Tryd.pinned.checked.prog.looks [] ∧ ∀ (j : Nat) t, fn.params[j]? = some t → Tryd.pinned.checked.prog.wantsStandIn t = false := by
  obtain rfl : f = 5 := Option.some.inj ((show Tryd.prog.funcNamed "outline/outlinekeep.Stored" = some 5 by kernel_rfl).symm.trans hf) |>.symm
  obtain rfl : fn = Tryd.f5 := (Option.some.inj (Tryd.func5.symm.trans hfn)).symm
  refine ⟨by kernel_rfl, fun j t ht => ?_⟩
  rw [Tryd.params5] at ht
  have ht2 : t = 31 ∨ t = 3 ∨ t = 9 := by
    have := Array.mem_of_getElem? ht
    simp at this
    omega
  rcases ht2 with rfl | rfl | rfl
  · exact (show Tryd.prog.wantsStandIn 31 = false by kernel_rfl)
  · exact (show Tryd.prog.wantsStandIn 3 = false by kernel_rfl)
  · exact (show Tryd.prog.wantsStandIn 9 = false by kernel_rfl)

set_option maxRecDepth 100000 in
theorem stored_holds : Rows.StoredCardSaid :=
  Claim7.holds_tied_plain_at .later [] _ _ _ _ stored_said (fun _ h => by cases h) (by kernel_rfl) (fun _ h => by cases h) stored_row_tie rfl ⟨rfl, rfl⟩ (by kernel_rfl) rfl stored_plain (by kernel_rfl)
end Go.Proofs.YtljfiefobnncaaaDoor
