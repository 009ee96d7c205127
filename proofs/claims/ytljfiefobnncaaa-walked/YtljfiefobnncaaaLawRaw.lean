/- How raw numbers come in on a plain seat. -/
import Derived.Test.YtljfiefobnncaaaLawPlain
import Derived.Test.YtljfiefobnncaaaSc
import Derived.SizedLaws
namespace Go.Proofs.Ytljfiefobnncaaa
open Go.ChangeShapes Go.WideShapes Go.ChangeAt Go.RowKit Go.Joins

theorem cellsInt : Try.prog.cellsOf 3 = 1 := by kernel_rfl
theorem bytesInt : Try.prog.bytesOf 3 = 8 := by kernel_rfl

set_option maxRecDepth 100000 in
theorem open_raw {H : Type} {enc : TypeId × Value → H} {W : World} {base : Nat} {v : Value} {d : DataW H} {p : List MemPlace} {ts : List TypeId} {ds : List (DataW H)} (hsz : (DataW.weightsEach Try.prog ts ds).all (· ≤ reachBytes) = true) (ht : ts[0]? = some 33) (hd : ds[0]? = some d)
    (hv : Value.okWide Try.prog W .any base 33 v) (h : DataW.Trod enc Try.prog W 0 (fun _ => true) true 33 v d p) :
    ∃ ao len cap, v = .slice ao len cap ∧ RawIs ao len W ∧ len ≤ 140737488355328 := by
  obtain ⟨ao, len, cap, rfl⟩ := okWide_slice Try.underlying33 hv
  refine ⟨ao, len, cap, rfl, ?_⟩
  obtain ⟨fuel, hf⟩ := h
  rcases open_ints Try.underlying33 Try.underlying3 cellsInt hf with ⟨hcs, -⟩ | ⟨ad, len', cap', zs, hcs, -, hl, hm, hz, hxx, hcell, -⟩
  · simp [Value.cells] at hcs
    obtain ⟨-, rfl, -⟩ := hcs
    exact ⟨.inl rfl, by omega⟩
  · simp [Value.cells] at hcs
    obtain ⟨rfl, rfl, rfl⟩ := hcs
    simp only [if_true] at hz
    obtain ⟨rfl, rfl⟩ := Prod.mk.inj hxx
    have hw := sized_slice hsz (j := 0) (t := 33) (e := 3) ht hd Try.underlying33
    rw [bytesInt] at hw
    have : reachBytes = 140737488351232 := by decide
    simp only [lits, List.length_map, List.length_take, List.length_drop, this] at hw
    refine ⟨?_, by omega⟩
    by_cases hp : len = 0
    · exact .inl hp
    · obtain ⟨bk, off, rfl, hc⟩ := ints_at hcell (by omega)
      refine .inr ⟨bk, off, rfl, ?_, fun j hj => ⟨_, hc j (by omega)⟩⟩
      exact World.block_lt_of_cell? W _ (hc 0 (by omega))
end Go.Proofs.Ytljfiefobnncaaa
