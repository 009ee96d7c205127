import Derived.Test.YtljfiefobnncaaaDoorK20
import Derived.Handy
import Derived.Test.YtljfiefobnncaaaDoorK10

/- Reading paths: points. -/
namespace Go.Proofs.YtljfiefobnncaaaDoor
open Go.RowKit

/-- What readPoint gives. -/
def pt3 : Except (Int × Nat) ((Int × Int) × Nat) → (Int × Int) × Nat × Int
  | .ok (p, k) => (p, k, 0)
  | .error (e, p) => ((0, 0), p, e)
theorem err_ne {e : Int} (h : e = 1 ∨ e = 2 ∨ e = 3) : (e == 0) = false := by rcases h with rfl | rfl | rfl <;> rfl
theorem lackE_in (n a : Nat) : Pm.lackE n a = 1 ∨ Pm.lackE n a = 2 ∨ Pm.lackE n a = 3 := by unfold Pm.lackE; split <;> omega
theorem two_on {w w' : World} {a b : Value} {t : TypeId} (hb : Below (w.alloc (.cells #[a, b] t)).heap.size (w.alloc (.cells #[a, b] t)) w') :
    w'.cell? ⟨w.heap.size, 0, none⟩ = some a ∧ w'.cell? ⟨w.heap.size, 1, none⟩ = some b ∧ w'.frozen? ⟨w.heap.size, 0, none⟩ = false ∧ w'.frozen? ⟨w.heap.size, 1, none⟩ = false ∧ w.heap.size < w'.heap.size := by
  have z : w.heap.size < (w.alloc (.cells #[a, b] t)).heap.size := by simp
  exact ⟨(hb.cell (p := ⟨w.heap.size, 0, none⟩) z).trans (by simp), (hb.cell (p := ⟨w.heap.size, 1, none⟩) z).trans (by simp), (hb.frozen (p := ⟨w.heap.size, 0, none⟩) z).trans (by simp), (hb.frozen (p := ⟨w.heap.size, 1, none⟩) z).trans (by simp), Nat.lt_of_lt_of_le z hb.size⟩

set_option maxRecDepth 4000 in
set_option maxHeartbeats 1000000 in
theorem pReadPoint_any (s : ByteArray) (i : Nat) (hi : i ≤ s.size) (hs : s.size ≤ 140737488355328) (w : World) :
    Calls Tryd.prog 82 #[.string s, .int .i64 i] w fun e w' => e = .returned (.tuple #[.agg #[.int .i64 (pt3 (Pm.pnt s.data.toList i)).1.1, .int .i64 (pt3 (Pm.pnt s.data.toList i)).1.2], .int .i64 (pt3 (Pm.pnt s.data.toList i)).2.1, .int .i64 (pt3 (Pm.pnt s.data.toList i)).2.2]) ∧ Below w.heap.size w w' := by
  have ls : s.data.toList.length = s.size := by simp
  have R1 := hid (fun W => pReadNumber_any s i hi hs W)
  have PE : Hid (Pm.pnt s.data.toList i = match Pm.crd s.data.toList i with
    | .error e => .error e
    | .ok (x, k) => if Pm.blN (s.data.toList.drop k) = 0 then .error (Pm.lackE s.data.toList.length k, k) else
      match Pm.crd s.data.toList k with
      | .error e => .error e
      | .ok (y, m) => .ok (((x : Int), (y : Int)), m)) := rfl
  obtain ⟨P, hP⟩ : ∃ P, P = Pm.pnt s.data.toList i := ⟨_, rfl⟩
  rw [← hP] at PE ⊢
  clear hP
  match h1 : Pm.crd s.data.toList i with
  | .error (e, p) =>
    have e0 := err_ne (Pm.crd_err (by omega) h1).1
    have C2 := hid (show pt3 P = ((0, 0), p, e) by rw [PE.out, h1]; rfl)
    rw [h1] at R1
    rw [C2.out]
    simp only [rn3] at R1
    clear h1 ls
    go_enter Tryd.func82, Tryd.ntmps82
    go_wp2_with (first | (go_at_call 89; refine (R1.out _).mono ?_; rintro e w' ⟨rfl, rfl⟩))
    refine bodyPost_ret (v := .tuple #[.agg #[.int .i64 0, .int .i64 0], .int .i64 p, .int .i64 e]) (by simp [results, Tryd.results82, go_sem]) rfl ?_
    exact ⟨rfl, by go_grown⟩
  | .ok (x, k) =>
    have ck := Pm.crd_ok (by omega) h1
    have hk : k ≤ s.size := by omega
    have BL := hid (fun W => pIsBlank_any s k (by omega) W)
    have WR := hid (fun W => wrongAt_any s k W)
    have R2 := hid (fun W => pReadNumber_any s k hk hs W)
    have BN := hid (blAt_blN s k)
    rw [h1] at R1
    simp only [rn3] at R1
    by_cases hb : Pm.blN (s.data.toList.drop k) = 0
    · have C2 := hid (show pt3 P = ((0, 0), k, Pm.lackE s.size k) by rw [PE.out, h1]; simp only [hb, if_true, ls]; rfl)
      rw [BN.out, hb] at BL
      rw [C2.out]
      have BL2 := hid (show ∀ W, Calls Tryd.prog 80 #[.string s, .int .i64 k] W fun e w' => e = .returned (.bool false) ∧ w' = W from fun W => by simpa using BL.out W)
      obtain ⟨E, hE⟩ : ∃ E, E = Pm.lackE s.size k := ⟨_, rfl⟩
      rw [← hE] at WR ⊢
      clear h1 ls hb BL hE C2 BN PE
      go_enter Tryd.func82, Tryd.ntmps82
      go_wp2_with (first | (go_at_call 89; refine (R1.out _).mono ?_; rintro e w' ⟨rfl, rfl⟩) | (go_at_call 80; refine (BL2.out _).mono ?_; rintro e w' ⟨rfl, rfl⟩) | (go_at_call 68; refine (WR.out _).mono ?_; rintro e w' ⟨rfl, rfl⟩))
      refine bodyPost_ret (v := .tuple #[.agg #[.int .i64 0, .int .i64 0], .int .i64 k, .int .i64 E]) (by simp [results, Tryd.results82, go_sem]) rfl ?_
      exact ⟨rfl, by go_grown⟩
    · have BL2 := hid (show ∀ W, Calls Tryd.prog 80 #[.string s, .int .i64 k] W fun e w' => e = .returned (.bool true) ∧ w' = W from fun W => by
        have := BL.out W; rw [BN.out] at this; simpa [hb] using this)
      match h2 : Pm.crd s.data.toList k with
      | .error (e, p) =>
        have e0 := err_ne (Pm.crd_err (by omega) h2).1
        have C2 := hid (show pt3 P = ((0, 0), p, e) by rw [PE.out, h1]; simp only [hb, if_false, h2]; rfl)
        rw [h2] at R2
        rw [C2.out]
        simp only [rn3] at R2
        clear h1 ls hb BL C2 BN PE h2
        go_enter Tryd.func82, Tryd.ntmps82
        go_wp2_with fail
        refine (R1.out _).mono ?_
        rintro e w' ⟨rfl, rfl⟩
        go_wp2_with fail
        refine (BL2.out _).mono ?_
        rintro e w' ⟨rfl, rfl⟩
        go_wp2_with fail
        refine (R2.out _).mono ?_
        rintro e w' ⟨rfl, rfl⟩
        go_wp2
        refine bodyPost_ret (v := .tuple #[.agg #[.int .i64 0, .int .i64 0], .int .i64 p, .int .i64 e]) (by simp [results, Tryd.results82, go_sem]) rfl ?_
        exact ⟨rfl, by go_grown⟩
      | .ok (y, m) =>
        have C2 := hid (show pt3 P = (((x : Int), (y : Int)), m, 0) by rw [PE.out, h1]; simp only [hb, if_false, h2]; rfl)
        rw [h2] at R2
        rw [C2.out]
        simp only [rn3] at R2
        clear h1 ls hb BL C2 BN PE h2
        go_enter Tryd.func82, Tryd.ntmps82
        go_wp2_with fail
        refine (R1.out _).mono ?_
        rintro e w' ⟨rfl, rfl⟩
        go_wp2_with fail
        refine (BL2.out _).mono ?_
        rintro e w' ⟨rfl, rfl⟩
        go_wp2_with fail
        refine (R2.out _).mono ?_
        rintro e w' ⟨rfl, rfl⟩
        go_wp2
        refine bodyPost_ret (v := .tuple #[.agg #[.int .i64 x, .int .i64 y], .int .i64 m, .int .i64 0]) (by simp [results, Tryd.results82, go_sem]) rfl ?_
        exact ⟨rfl, by go_grown⟩

/-- What point gives. -/
def pt4 : Except (Int × Nat) ((Int × Int) × Nat) → Int → Int → Nat → Int → Nat → Prop
  | .ok (p, k), a, b, k', e, q => a = p.1 ∧ b = p.2 ∧ k' = k ∧ e = 0 ∧ q = 0
  | .error (e', p'), _, _, _, e, q => e = e' ∧ q = p'
set_option maxRecDepth 4000 in
set_option maxHeartbeats 1000000 in
theorem refPoint_any (s : ByteArray) (i : Nat) (hi : i ≤ s.size) (hs : s.size ≤ 140737488355328) (w : World) :
    Calls Tryd.prog 51 #[.string s, .int .i64 i] w fun e w' => (∃ (a b : Int) (k' : Nat) (ee : Int) (q : Nat), e = .returned (.tuple #[.agg #[.int .i64 a, .int .i64 b], .int .i64 k', .int .i64 ee, .int .i64 q]) ∧ pt4 (Pm.pnt s.data.toList i) a b k' ee q) ∧ Below w.heap.size w w' := by
  have ls : s.data.toList.length = s.size := by simp
  have R1 := hid (fun W => coordinate_any s i hi hs W)
  have PE : Hid (Pm.pnt s.data.toList i = match Pm.crd s.data.toList i with
    | .error e => .error e
    | .ok (x, k) => if Pm.blN (s.data.toList.drop k) = 0 then .error (Pm.lackE s.data.toList.length k, k) else
      match Pm.crd s.data.toList k with
      | .error e => .error e
      | .ok (y, m) => .ok (((x : Int), (y : Int)), m)) := rfl
  obtain ⟨P, hP⟩ : ∃ P, P = Pm.pnt s.data.toList i := ⟨_, rfl⟩
  rw [← hP] at PE ⊢
  clear hP
  match h1 : Pm.crd s.data.toList i with
  | .error (e, p) =>
    have e0 := err_ne (Pm.crd_err (by omega) h1).1
    have C2 := hid (show P = .error (e, p) by rw [PE.out, h1])
    rw [h1] at R1
    rw [C2.out]
    simp only [rn4] at R1
    clear h1 ls
    go_enter Tryd.func51, Tryd.ntmps51
    go_wp2_with (first | (go_at_call 67; refine (R1.out _).mono ?_; rintro e w' ⟨rfl, rfl⟩))
    refine bodyPost_ret (v := .tuple #[.agg #[.int .i64 0, .int .i64 0], .int .i64 (0 : Nat), .int .i64 e, .int .i64 p]) (by simp [results, Tryd.results51, go_sem]) rfl ?_
    exact ⟨⟨0, 0, 0, e, p, rfl, rfl, rfl⟩, by go_grown⟩
  | .ok (x, k) =>
    have ck := Pm.crd_ok (by omega) h1
    have hk : k ≤ s.size := by omega
    have SK := hid (fun W => refSkip_any s k hk hs W)
    have SS := hid (show Pm.skp s.data.toList k = k + Pm.blN (s.data.toList.drop k) from rfl)
    have sl := Pm.skp_le (l := s.data.toList) (i := k) (by omega)
    rw [ls] at sl
    have WR := hid (fun W => lacks_any s k hk W)
    have R2 := hid (fun W => coordinate_any s (Pm.skp s.data.toList k) sl hs W)
    rw [Pm.crd_skp] at R2
    obtain ⟨k2, hk2⟩ : ∃ k2, k2 = Pm.skp s.data.toList k := ⟨_, rfl⟩
    rw [← hk2] at SK SS R2 sl
    clear hk2
    rw [h1] at R1
    simp only [rn4] at R1
    by_cases hb : Pm.blN (s.data.toList.drop k) = 0
    · have C2 := hid (show P = .error (Pm.lackE s.size k, k) by rw [PE.out, h1]; simp only [hb, if_true, ls])
      have b0 : ((k2 : Int) == (k : Int)) = true := beq_iff_eq.2 (by have := SS.out; omega)
      rw [C2.out]
      obtain ⟨E, hE⟩ : ∃ E, E = Pm.lackE s.size k := ⟨_, rfl⟩
      rw [← hE] at WR ⊢
      clear h1 ls hb hE C2 PE
      go_enter Tryd.func51, Tryd.ntmps51
      go_wp2_with (first | (go_at_call 67; refine (R1.out _).mono ?_; rintro e w' ⟨rfl, rfl⟩) | (go_at_call 49; refine (SK.out _).mono ?_; rintro e w' ⟨rfl, rfl⟩) | (go_at_call 18; refine (WR.out _).mono ?_; rintro e w' ⟨rfl, rfl⟩))
      refine bodyPost_ret (v := .tuple #[.agg #[.int .i64 0, .int .i64 0], .int .i64 (0 : Nat), .int .i64 E, .int .i64 k]) (by simp [results, Tryd.results51, go_sem]) rfl ?_
      exact ⟨⟨0, 0, 0, E, k, rfl, rfl, rfl⟩, by go_grown⟩
    · have b0 : ((k2 : Int) == (k : Int)) = false := beq_eq_false_iff_ne.2 (by have := SS.out; omega)
      match h2 : Pm.crd s.data.toList k with
      | .error (e, p) =>
        have C2 := hid (show P = .error (e, p) by rw [PE.out, h1]; simp only [hb, if_false, h2])
        rw [h2] at R2
        rw [C2.out]
        simp only [rn4] at R2
        clear h1 ls hb C2 PE h2
        go_enter Tryd.func51, Tryd.ntmps51
        go_wp2_with fail
        refine (R1.out _).mono ?_
        rintro e w' ⟨rfl, rfl⟩
        go_wp2_with fail
        refine (SK.out _).mono ?_
        rintro e w' ⟨rfl, rfl⟩
        go_wp2_with fail
        refine (R2.out _).mono ?_
        rintro e w' ⟨rfl, rfl⟩
        go_wp2
        refine bodyPost_ret (v := .tuple #[.agg #[.int .i64 x, .int .i64 (0 : Nat)], .int .i64 (0 : Nat), .int .i64 e, .int .i64 p]) (by simp [results, Tryd.results51, go_sem]) rfl ?_
        exact ⟨⟨x, 0, 0, e, p, rfl, rfl, rfl⟩, by go_grown⟩
      | .ok (y, m) =>
        have C2 := hid (show P = .ok (((x : Int), (y : Int)), m) by rw [PE.out, h1]; simp only [hb, if_false, h2])
        rw [h2] at R2
        rw [C2.out]
        simp only [rn4] at R2
        clear h1 ls hb C2 PE h2
        go_enter Tryd.func51, Tryd.ntmps51
        go_wp2_with fail
        refine (R1.out _).mono ?_
        rintro e w' ⟨rfl, rfl⟩
        go_wp2_with fail
        refine (SK.out _).mono ?_
        rintro e w' ⟨rfl, rfl⟩
        go_wp2_with fail
        refine (R2.out _).mono ?_
        rintro e w' ⟨rfl, rfl⟩
        go_wp2
        refine bodyPost_ret (v := .tuple #[.agg #[.int .i64 x, .int .i64 y], .int .i64 m, .int .i64 0, .int .i64 (0 : Nat)]) (by simp [results, Tryd.results51, go_sem]) rfl ?_
        exact ⟨⟨x, y, m, 0, 0, rfl, rfl, rfl, rfl, rfl, rfl⟩, by go_grown⟩

end Go.Proofs.YtljfiefobnncaaaDoor

/- Package polygons: bounds, size, cost, isBetter. -/
namespace Go.Proofs.YtljfiefobnncaaaDoor
open Go.RowKit





theorem BoxP.set0 {B : Nat} {a b x : Int} {w : World} (h : BoxP B (a, b) w) : BoxP B (x, b) (w.setCell ⟨B, 0, none⟩ (.int .i64 x)) :=
  ⟨World.cell?_setCell_same _ _ _ h.1, (World.cell?_setCell_other _ _ _ _ (by simp)).trans h.2.1, by simpa using h.2.2.1, by simpa using h.2.2.2.1, by rw [World.size_setCell]; exact h.2.2.2.2⟩
theorem BoxP.set1 {B : Nat} {a b x : Int} {w : World} (h : BoxP B (a, b) w) : BoxP B (a, x) (w.setCell ⟨B, 1, none⟩ (.int .i64 x)) :=
  ⟨(World.cell?_setCell_other _ _ _ _ (by simp)).trans h.1, World.cell?_setCell_same _ _ _ h.2.1, by simpa using h.2.2.1, by simpa using h.2.2.2.1, by rw [World.size_setCell]; exact h.2.2.2.2⟩
theorem BoxP.other {B C j : Nat} {p : Int × Int} {v : Value} {w : World} (h : BoxP B p w) (hne : B ≠ C) : BoxP B p (w.setCell ⟨C, j, none⟩ v) :=
  ⟨(World.cell?_setCell_other _ _ _ _ (by intro e; injection e with e _ _; exact hne e.symm)).trans h.1, (World.cell?_setCell_other _ _ _ _ (by intro e; injection e with e _ _; exact hne e.symm)).trans h.2.1, by simpa using h.2.2.1, by simpa using h.2.2.2.1, by rw [World.size_setCell]; exact h.2.2.2.2⟩
theorem BoxP.new {B : Nat} {a b : Int} {w : World} (t : TypeId) (hB : B = w.heap.size) : BoxP B (a, b) (w.alloc (.cells #[.int .i64 a, .int .i64 b] t)) := by
  subst hB; exact ⟨by simp, by simp, by simp, by simp, by simp⟩
theorem BoxP.alloc {B : Nat} {p : Int × Int} {w : World} (h : BoxP B p w) (o : Obj) : BoxP B p (w.alloc o) := h.on ((Below.refl _ _).alloc (Nat.le_refl _) _) h.2.2.2.2

end Go.Proofs.YtljfiefobnncaaaDoor
/- Package polygons: cost. -/
namespace Go.Proofs.YtljfiefobnncaaaDoor
open Go.RowKit

end Go.Proofs.YtljfiefobnncaaaDoor
/- Package polygons: fits. -/
namespace Go.Proofs.YtljfiefobnncaaaDoor
open Go.RowKit

theorem fit_no {l : List (Int × Int)} {x y : Int} (h1 : Qm.loF Prod.fst l l.length ≤ x) (h2 : x < Qm.hiF Prod.fst l l.length) (h3 : Qm.loF Prod.snd l l.length ≤ y) (h4 : y < Qm.hiF Prod.snd l l.length) (h : Qm.okAt l x y = false) : Qm.fitB l = false := by
  cases hf : Qm.fitB l with
  | false => rfl
  | true => rw [(Qm.fitB_iff l).1 hf x y h1 h2 h3 h4] at h; simp at h

end Go.Proofs.YtljfiefobnncaaaDoor