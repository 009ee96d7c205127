/- The law Paths holds where what comes in holds at most 1048576 values and letters: whatever list of shapes comes in, with whatever points and however they share memory, and whatever text, Path and Shapes answer as the document's own answer does, what was handed in reads as it did, and the lists that come out are the caller's own, each for itself; the statement's other condition is that the three tables of the library start as the program's text lays them, which the card ties. -/
import Derived.Test.YtljfiefobnncaaaDoorK01
import Derived.Test.YtljfiefobnncaaaDoorK12
import Derived.Test.YtljfiefobnncaaaDoorK39
namespace Go.Proofs.YtljfiefobnncaaaDoor
open Go.ChangeShapes Go.WideShapes Go.ChangeAt Go.RowKit Go.Joins
open Go.ChangeMaps (open_string shut_string)

theorem path_bulk (L : List ShT) : (Pm.pathL (ptsS L)).length ≤ 6 * (L.map fun s => s.1.length).sum + L.length := by
  induction L with
  | nil => simp [ptsS, Pm.pathL]
  | cons s L ih =>
    have h := Pm.shP_len s.1
    have e : Pm.pathL (ptsS (s :: L)) = Pm.shL s.1 ++ Pm.pathL (ptsS L) := by simp [ptsS, Pm.pathL]
    rw [e]
    unfold Pm.shL
    simp only [List.length_append, List.length_cons, List.length_nil, List.map_cons, List.sum_cons]
    omega
theorem len_in {L : List ShT} (i : Nat) : (L.getD i sh0).1.length ≤ (L.map fun s => s.1.length).sum := by
  induction L generalizing i with
  | nil => simp [sh0]
  | cons s L ih =>
    cases i with
    | zero => simp
    | succ i => have := ih i; simp only [List.getD_cons_succ, List.map_cons, List.sum_cons]; omega

set_option maxRecDepth 100000 in
theorem paths_contract (H : Type) (enc : TypeId × Value → H) (W : World) (base : Nat) (args : Array Value) (ds gs : List (DataW H)) (before : List MemPlace)
    (hval : ∀ (j : Nat) t v, Tryd.f6.params[j]? = some t → args[j]? = some v → Value.okWide Tryd.prog W .any base t v)
    (hW : DataW.Whole enc Tryd.prog Tryd.f6.params.toList Rows.pathsSpec.vars false W args.toList ds gs before)
    (hk : Rows.uptoSmall H (ds ++ gs) = true)
    (hsz0 : (DataW.weightsEach Tryd.prog (Tryd.f6.params.toList ++ (OpenSpec.ofChange Rows.pathsSpec).bare.plain.varTypes Tryd.prog) (ds ++ gs)).all (· ≤ reachBytes) = true) :
    Calls Tryd.prog 6 args W fun e W' => ∃ v, e = .returned v ∧ Rows.pathsSpec.post enc Tryd.prog Tryd.f6 false true false false W args v W' := by
  have hW' := hW
  obtain ⟨p, q, hA0, hV, rfl, hfz, hnd⟩ := hW
  have hA : DataW.TrodAll enc Tryd.prog W 0 (fun _ => true) true Tryd.f6.params.toList args.toList ds p := hA0
  rw [Tryd.params6] at hA hval hsz0
  obtain ⟨v0, vs0, d0, ds0, p0, q0, hargs, rfl, rfl, h0, r0⟩ := trodAll_cons hA
  obtain ⟨v1, vs1, d1, ds1, p1, q1, rfl, rfl, rfl, h1, r1⟩ := trodAll_cons r0
  obtain ⟨rfl, rfl, rfl⟩ := trodAll_nil r1
  obtain rfl : args = #[v0, v1] := by cases args; simp_all
  obtain ⟨rfl, rfl⟩ := trodVars_none hV
  have h0k := h0
  have h1k := h1
  obtain ⟨x, rfl, hd1, -, -⟩ := open_string Tryd.underlying9 (hval 1 9 v1 rfl rfl) h1
  subst hd1
  obtain ⟨ao, n, cap, L, rfl, hn, hb, hm, hbk, hS⟩ := open_shapesU (k := 0) hsz0 rfl rfl (hval 0 35 v0 rfl rfl) h0
  have hbb : Rows.uptoBulkAll ([d0, DataW.lit (.string x.data.toList)] ++ ([] : List (DataW H))) ≤ 1048576 := of_decide_eq_true hk
  simp only [List.append_nil, Rows.uptoBulkAll, Rows.uptoBulk] at hbb
  have hx : x.size ≤ 1048576 := by
    have : x.data.toList.length = x.size := by simp
    omega
  clear hA0
  have pb := path_bulk L
  refine (pathsLaw_any ao n cap L x hn (by omega) (fun i => by have := len_in (L := L) i; omega) (by omega) (by omega) W hS).mono fun e W' ⟨he, hb⟩ => ?_
  subst he
  have hlt : ∀ y ∈ p0 ++ (p1 ++ []), y.block < W.heap.size := fun y hy => by simpa using hW'.lt y (by simpa using hy)
  exact ⟨_, rfl, _, [], _, [], p0 ++ (p1 ++ []), [], hW', trodAll_cons_mk (shut_bool Tryd.underlying4 _) trodAll_mk0,
    trodAll_cons_mk (Below.trod laidOut (by kernel_rfl) (of_decide_eq_true (by kernel_rfl)) h0k hb (fun y hy => hlt y (by simp [hy])))
      (trodAll_cons_mk (Below.trod laidOut (by kernel_rfl) (of_decide_eq_true (by kernel_rfl)) h1k hb (fun y hy => hlt y (by simp [hy]))) trodAll_mk0), rfl, hb.frame _, fun h => by cases h⟩

set_option maxRecDepth 100000 in
theorem pathsUpto_lifted (os : Os) (started : os.Started) (H : Type) (enc : TypeId × Value → H) (F : Stop.Interp) :
    ReturnsInHanded {} Tryd.checked os 6 .any ((Rows.OpenSpec.upto Rows.pathsSpec).preRow enc Tryd.prog Tryd.f6 Rows.pathsUptoRow.domain false Rows.pathsUptoRow.laid) (((Rows.OpenSpec.upto Rows.pathsSpec).at F).post enc Tryd.prog Tryd.f6 false true false false) := by
  refine returnsInHanded_of_row (C := Tryd.checked) (s := Rows.OpenSpec.upto Rows.pathsSpec) own started (by kernel_rfl) Tryd.func6
    (witness_row_at (enc := enc) (C := Tryd.checked) false
      { World.holding Tryd.prog os ⟨#[], #[], []⟩ with heap := (((World.holding Tryd.prog os ⟨#[], #[], []⟩).heap.modify 0 (withCells (laidCells Rows.laid_internal_strconv_uint64pow10))).modify 1 (withCells (laidCells Rows.laid_math_bits_deBruijn32tab))).modify 2 (withCells (laidCells Rows.laid_math_bits_deBruijn64tab)) }
      #[.slice none 0 0, .string ⟨#[]⟩] rfl (by kernel_rfl) (by kernel_rfl) (by kernel_rfl)
      (OpenSpec.preRow_of_cond 8 (x := ([.nil, .lit (.string [])], [], [])) (by kernel_rfl) (by kernel_rfl) (fun k hk => by cases hk; kernel_rfl) (by kernel_rfl) (laidMet_of_run' 8 (by kernel_rfl) (by kernel_rfl)))) ?_
  intro W base args ds gs before hval hW _ hcond hsz _ _ _
  exact paths_contract H enc W base args ds gs before hval hW (hcond _ rfl) hsz

set_option maxRecDepth 100000 in
theorem pathsUpto_said : Rows.PathsUptoSaid :=
  OpenClaim.holds_of_cond 6 Tryd.f6 rfl rfl rfl rfl rfl rfl rfl ⟨rfl, rfl, rfl, rfl, rfl⟩ rfl rfl rfl rfl rfl (by kernel_rfl) Tryd.func6 (by kernel_rfl)
    (of_decide_eq_true (by kernel_rfl)) (by unfold Func.isWrapper; first | (rw [if_pos (by decide +kernel)]; kernel_rfl) | (rw [if_neg (by decide +kernel)]; exact ⟨rfl, rfl⟩))
    (fun os started H enc _ F => by rw [OpenClaim.pre_eq_preRow]; exact pathsUpto_lifted os started H enc F)

set_option maxRecDepth 100000 in
theorem paths_plain (f : FuncId) (fn : Func) (hf : Tryd.pinned.checked.prog.funcNamed "outline/outlinelaw.Paths" = some f) (hfn : Tryd.pinned.checked.prog.funcs[f]? = some fn) :
    false = Tryd.pinned.checked.prog.looks [] ∧ ∀ (j : Nat) t, fn.params[j]? = some t → Tryd.pinned.checked.prog.wantsStandIn t = false := by
  obtain rfl : f = 6 := Option.some.inj ((show Tryd.prog.funcNamed "outline/outlinelaw.Paths" = some 6 by kernel_rfl).symm.trans hf) |>.symm
  obtain rfl : fn = Tryd.f6 := (Option.some.inj (Tryd.func6.symm.trans hfn)).symm
  refine ⟨by kernel_rfl, fun j t ht => ?_⟩
  rw [Tryd.params6] at ht
  have ht2 : t = 35 ∨ t = 9 := by
    have := Array.mem_of_getElem? ht
    simp at this
    omega
  rcases ht2 with rfl | rfl
  · exact (show Tryd.prog.wantsStandIn 35 = false by kernel_rfl)
  · exact (show Tryd.prog.wantsStandIn 9 = false by kernel_rfl)

set_option maxRecDepth 100000 in
theorem pathsUpto_holds : Rows.PathsUptoCardSaid :=
  Claim7.holds_tied_plain_at .later [] _ _ _ _ pathsUpto_said (fun _ h => by cases h) (by kernel_rfl) (fun _ h => by cases h) pathsUpto_row_tie rfl ⟨rfl, rfl⟩ (by kernel_rfl) rfl paths_plain (by kernel_rfl)
end Go.Proofs.YtljfiefobnncaaaDoor
