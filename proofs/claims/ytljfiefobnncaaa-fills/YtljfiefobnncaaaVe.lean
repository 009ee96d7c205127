/- Fill refused; outline.Fill; the document's Fill. -/
import Derived.Test.YtljfiefobnncaaaVd
namespace Go.Proofs.Ytljfiefobnncaaa
open Go.RowKit

/-- May it be filled? -/
def okFill (V U r : Int) (L : List ShT) : Bool := Pm.sideB V && Pm.sideB U && (r == 0 || r == 1) && plB L
set_option maxRecDepth 4000 in
set_option maxHeartbeats 2000000 in
theorem pkgFill_no (ao : Option Addr) (n cap : Nat) (L : List ShT) (hn : n = L.length) (hn2 : n ≤ 140737488355328) (hm : ∀ i, (L.getD i sh0).1.length ≤ 140737488355328) (V U r : Int) (hk : okFill V U r L = false) (w : World) (hS : ShIs ao L w) :
    Calls Try.prog 48 #[.slice ao n cap, .int .i64 V, .int .i64 U, .int .i64 r] w fun e w' => e = .returned (.tuple #[.agg #[.int .i64 0, .int .i64 0, .string ⟨#[]⟩], .int .i64 4]) ∧ Below w.heap.size w w' := by
  have MB := hid (fun W' (h : Below w.heap.size w W') => shapesMay_any ao n cap L hn hn2 hm W' (hS.on h))
  have HK := hid hk
  clear hS hm hn hk
  cases hv : Pm.sideB V
  · go_enter Try.func48, Try.ntmps48
    go_wp2_with (first | (go_at_call 64; refine (isSide_any _ _).mono ?_; rintro e w' ⟨rfl, rfl⟩; rw [hv]))
    refine bodyPost_ret (v := .tuple #[.agg #[.int .i64 0, .int .i64 0, .string ⟨#[]⟩], .int .i64 4]) (by simp [results, Try.results48, go_sem]) rfl ?_
    exact ⟨rfl, by go_grown⟩
  · cases hu : Pm.sideB U
    · go_enter Try.func48, Try.ntmps48
      go_wp2_with (first | (go_at_call 64; refine (isSide_any _ _).mono ?_; rintro e w' ⟨rfl, rfl⟩; first | rw [hv] | rw [hu]))
      refine bodyPost_ret (v := .tuple #[.agg #[.int .i64 0, .int .i64 0, .string ⟨#[]⟩], .int .i64 4]) (by simp [results, Try.results48, go_sem]) rfl ?_
      exact ⟨rfl, by go_grown⟩
    · cases hr : (r == 0 || r == 1)
      · have RR := hid hr
        clear hr
        go_enter Try.func48, Try.ntmps48
        go_wp2_with (first | (go_at_call 64; refine (isSide_any _ _).mono ?_; rintro e w' ⟨rfl, rfl⟩; first | rw [hv] | rw [hu]) | (go_at_call 65; refine (isRule_any _ _).mono ?_; rintro e w' ⟨rfl, rfl⟩; rw [RR.out]))
        refine bodyPost_ret (v := .tuple #[.agg #[.int .i64 0, .int .i64 0, .string ⟨#[]⟩], .int .i64 4]) (by simp [results, Try.results48, go_sem]) rfl ?_
        exact ⟨rfl, by go_grown⟩
      · have RR := hid hr
        have hp : plB L = false := by have := HK.out; unfold okFill at this; rw [hv, hu, hr] at this; simpa using this
        rw [hp] at MB
        clear hr hp
        go_enter Try.func48, Try.ntmps48
        go_wp2_with (first | (go_at_call 64; refine (isSide_any _ _).mono ?_; rintro e w' ⟨rfl, rfl⟩; first | rw [hv] | rw [hu]) | (go_at_call 65; refine (isRule_any _ _).mono ?_; rintro e w' ⟨rfl, rfl⟩; rw [RR.out]))
        refine (MB.out _ (by go_grown)).mono ?_
        rintro e X ⟨rfl, hb1⟩
        have XB := hid (show Below w.heap.size w X from Below.trans (b := _) (by go_grown) (hb1.mono (by simp)))
        obtain ⟨⟨b0, b1, b2⟩, ⟨g0, g1, g2⟩, -, bz⟩ := (Box3.new w (.int .i64 0) (.int .i64 0) (.string ⟨#[]⟩) 23).on hb1
        clear hb1
        go_wp2
        refine bodyPost_ret (v := .tuple #[.agg #[.int .i64 0, .int .i64 0, .string ⟨#[]⟩], .int .i64 4]) (by simp [results, Try.results48, go_sem, World.cell?_setCell_other, World.cell?_setCell_same', *]) rfl ?_
        exact ⟨rfl, by go_grown; exact XB.out⟩

/-- What filling answers. -/
def fillOut (V U r : Int) (L : List ShT) : Value :=
  if okFill V U r L = true then .tuple #[.agg #[.int .i64 V, .int .i64 U, .string ⟨(fpxs L V.toNat r (U.toNat * V.toNat)).toArray⟩], .int .i64 0]
  else .tuple #[.agg #[.int .i64 0, .int .i64 0, .string ⟨#[]⟩], .int .i64 4]
theorem okFill_parts {V U r : Int} {L : List ShT} (h : okFill V U r L = true) : 1 ≤ V ∧ V ≤ 32 ∧ 1 ≤ U ∧ U ≤ 32 ∧ (r == 0 || r == 1) = true ∧ plB L = true := by
  unfold okFill at h
  simp only [Bool.and_eq_true] at h
  have a := of_decide_eq_true h.1.1.1
  have b := of_decide_eq_true h.1.1.2
  exact ⟨a.1, a.2, b.1, b.2, h.1.2, h.2⟩
theorem pkgFill_any (ao : Option Addr) (n cap : Nat) (L : List ShT) (hn : n = L.length) (hn2 : n ≤ 140737488355328) (hm : ∀ i, (L.getD i sh0).1.length ≤ 140737488355328) (V U r : Int) (w : World) (hS : ShIs ao L w) :
    Calls Try.prog 48 #[.slice ao n cap, .int .i64 V, .int .i64 U, .int .i64 r] w fun e w' => e = .returned (fillOut V U r L) ∧ Below w.heap.size w w' := by
  cases hk : okFill V U r L
  · unfold fillOut
    rw [hk]
    exact pkgFill_no ao n cap L hn hn2 hm V U r hk w hS
  · obtain ⟨a, b, c, d, e, f⟩ := okFill_parts hk
    unfold fillOut
    rw [hk, if_pos rfl]
    obtain ⟨v, rfl⟩ : ∃ v : Nat, V = v := ⟨V.toNat, by omega⟩
    obtain ⟨u, rfl⟩ : ∃ u : Nat, U = u := ⟨U.toNat, by omega⟩
    exact pkgFill_yes ao n cap L hn hn2 hm f v u r (by omega) (by omega) (by omega) (by omega) e w hS

set_option maxRecDepth 4000 in
set_option maxHeartbeats 400000 in
theorem fill_any (ao : Option Addr) (n cap : Nat) (L : List ShT) (hn : n = L.length) (hn2 : n ≤ 140737488355328) (hm : ∀ i, (L.getD i sh0).1.length ≤ 140737488355328) (V U r : Int) (w : World) (hS : ShIs ao L w) :
    Calls Try.prog 33 #[.slice ao n cap, .int .i64 V, .int .i64 U, .int .i64 r] w fun e w' => e = .returned (fillOut V U r L) ∧ Below w.heap.size w w' := by
  have PF := hid (fun W' (h : Below w.heap.size w W') => pkgFill_any ao n cap L hn hn2 hm V U r W' (hS.on h))
  clear hS hm hn
  have key : ∀ (a b d : Int) (c : ByteArray), fillOut V U r L = .tuple #[.agg #[.int .i64 a, .int .i64 b, .string c], .int .i64 d] → Calls Try.prog 33 #[.slice ao n cap, .int .i64 V, .int .i64 U, .int .i64 r] w fun e w' => e = .returned (.tuple #[.agg #[.int .i64 a, .int .i64 b, .string c], .int .i64 d]) ∧ Below w.heap.size w w' := by
    intro a b d c e
    rw [e] at PF
    clear e
    go_enter Try.func33, Try.ntmps33
    go_wp2_with fail
    refine (PF.out _ (by go_grown)).mono ?_
    rintro e X ⟨rfl, hb1⟩
    have XB := hid (show Below w.heap.size w X from Below.trans (b := _) (by go_grown) (hb1.mono (by simp)))
    obtain ⟨⟨b0, b1, b2⟩, ⟨g0, g1, g2⟩, -, bz⟩ := (Box3.new w (.int .i64 0) (.int .i64 0) (.string ⟨#[]⟩) 23).on hb1
    clear hb1
    go_wp2
    refine bodyPost_ret (v := .tuple #[.agg #[.int .i64 a, .int .i64 b, .string c], .int .i64 d]) (by simp [results, Try.results33, go_sem, World.cell?_setCell_other, World.cell?_setCell_same', *]) rfl ?_
    exact ⟨rfl, by go_grown; exact XB.out⟩
  have h : ∃ (a b d : Int) (c : ByteArray), fillOut V U r L = .tuple #[.agg #[.int .i64 a, .int .i64 b, .string c], .int .i64 d] := by
    unfold fillOut; split <;> exact ⟨_, _, _, _, rfl⟩
  obtain ⟨a, b, d, c, e⟩ := h
  rw [e]
  exact key a b d c e

end Go.Proofs.Ytljfiefobnncaaa
