import Derived.Test.YtljfiefobnncaabGreatDoorK28
import Derived.Handy
import Derived.Test.YtljfiefobnncaabGreatDoorK17

/- Reading paths: points. -/
namespace Go.Proofs.YtljfiefobnncaabGreatDoor
open Go.RowKit

/-- What readPoint gives. -/
def pt3 : Except (Int × Nat) ((Int × Int) × Nat) → (Int × Int) × Nat × Int
  | .ok (p, k) => (p, k, 0)
  | .error (e, p) => ((0, 0), p, e)
theorem err_ne {e : Int} (h : e = 1 ∨ e = 2 ∨ e = 3) : (e == 0) = false := by rcases h with rfl | rfl | rfl <;> rfl
theorem lackE_in (n a : Nat) : Pm.lackE n a = 1 ∨ Pm.lackE n a = 2 ∨ Pm.lackE n a = 3 := by unfold Pm.lackE; split <;> omega
theorem two_on {w w' : World} {a b : Value} {t : TypeId} (hb : Below (w.alloc (.cells #[a, b] t)).heap.size (w.alloc (.cells #[a, b] t)) w') :
    w'.cell? ⟨w.heap.size, 0, none⟩ = some a ∧ w'.cell? ⟨w.heap.size, 1, none⟩ = some b ∧ w'.frozen? ⟨w.heap.size, 0, none⟩ = false ∧ w'.frozen? ⟨w.heap.size, 1, none⟩ = false ∧ w.heap.size < w'.heap.size := by
  have z : w.heap.size < (w.alloc (.cells #[a, b] t)).heap.size := by simp
  exact ⟨(hb.cell (p := ⟨w.heap.size, 0, none⟩) z).trans (by simp), (hb.cell (p := ⟨w.heap.size, 1, none⟩) z).trans (by simp), (hb.frozen (p := ⟨w.heap.size, 0, none⟩) z).trans (by simp), (hb.frozen (p := ⟨w.heap.size, 1, none⟩) z).trans (by simp), Nat.lt_of_lt_of_le z hb.size⟩

set_option maxRecDepth 4000 in
set_option maxHeartbeats 1000000 in
theorem pReadPoint_any (s : ByteArray) (i : Nat) (hi : i ≤ s.size) (hs : s.size ≤ 140737488355328) (w : World) :
    Calls Tryz.prog 108 #[.string s, .int .i64 i] w fun e w' => e = .returned (.tuple #[.agg #[.int .i64 (pt3 (Pm.pnt s.data.toList i)).1.1, .int .i64 (pt3 (Pm.pnt s.data.toList i)).1.2], .int .i64 (pt3 (Pm.pnt s.data.toList i)).2.1, .int .i64 (pt3 (Pm.pnt s.data.toList i)).2.2]) ∧ Below w.heap.size w w' := by
  have ls : s.data.toList.length = s.size := by simp
  have R1 := hid (fun W => pReadNumber_any s i hi hs W)
  have PE : Hid (Pm.pnt s.data.toList i = match Pm.crd s.data.toList i with
    | .error e => .error e
    | .ok (x, k) => if Pm.blN (s.data.toList.drop k) = 0 then .error (Pm.lackE s.data.toList.length k, k) else
      match Pm.crd s.data.toList k with
      | .error e => .error e
      | .ok (y, m) => .ok (((x : Int), (y : Int)), m)) := rfl
  obtain ⟨P, hP⟩ : ∃ P, P = Pm.pnt s.data.toList i := ⟨_, rfl⟩
  rw [← hP] at PE ⊢
  clear hP
  match h1 : Pm.crd s.data.toList i with
  | .error (e, p) =>
    have e0 := err_ne (Pm.crd_err (by omega) h1).1
    have C2 := hid (show pt3 P = ((0, 0), p, e) by rw [PE.out, h1]; rfl)
    rw [h1] at R1
    rw [C2.out]
    simp only [rn3] at R1
    clear h1 ls
    go_enter Tryz.func108, Tryz.ntmps108
    go_wp2_with (first | (go_at_call 124; refine (R1.out _).mono ?_; rintro e w' ⟨rfl, rfl⟩))
    refine bodyPost_ret (v := .tuple #[.agg #[.int .i64 0, .int .i64 0], .int .i64 p, .int .i64 e]) (by simp [results, Tryz.results108, go_sem]) rfl ?_
    exact ⟨rfl, by go_grown⟩
  | .ok (x, k) =>
    have ck := Pm.crd_ok (by omega) h1
    have hk : k ≤ s.size := by omega
    have BL := hid (fun W => pIsBlank_any s k (by omega) W)
    have WR := hid (fun W => wrongAt_any s k W)
    have R2 := hid (fun W => pReadNumber_any s k hk hs W)
    have BN := hid (blAt_blN s k)
    rw [h1] at R1
    simp only [rn3] at R1
    by_cases hb : Pm.blN (s.data.toList.drop k) = 0
    · have C2 := hid (show pt3 P = ((0, 0), k, Pm.lackE s.size k) by rw [PE.out, h1]; simp only [hb, if_true, ls]; rfl)
      rw [BN.out, hb] at BL
      rw [C2.out]
      have BL2 := hid (show ∀ W, Calls Tryz.prog 106 #[.string s, .int .i64 k] W fun e w' => e = .returned (.bool false) ∧ w' = W from fun W => by simpa using BL.out W)
      obtain ⟨E, hE⟩ : ∃ E, E = Pm.lackE s.size k := ⟨_, rfl⟩
      rw [← hE] at WR ⊢
      clear h1 ls hb BL hE C2 BN PE
      go_enter Tryz.func108, Tryz.ntmps108
      go_wp2_with (first | (go_at_call 124; refine (R1.out _).mono ?_; rintro e w' ⟨rfl, rfl⟩) | (go_at_call 106; refine (BL2.out _).mono ?_; rintro e w' ⟨rfl, rfl⟩) | (go_at_call 109; refine (WR.out _).mono ?_; rintro e w' ⟨rfl, rfl⟩))
      refine bodyPost_ret (v := .tuple #[.agg #[.int .i64 0, .int .i64 0], .int .i64 k, .int .i64 E]) (by simp [results, Tryz.results108, go_sem]) rfl ?_
      exact ⟨rfl, by go_grown⟩
    · have BL2 := hid (show ∀ W, Calls Tryz.prog 106 #[.string s, .int .i64 k] W fun e w' => e = .returned (.bool true) ∧ w' = W from fun W => by
        have := BL.out W; rw [BN.out] at this; simpa [hb] using this)
      match h2 : Pm.crd s.data.toList k with
      | .error (e, p) =>
        have e0 := err_ne (Pm.crd_err (by omega) h2).1
        have C2 := hid (show pt3 P = ((0, 0), p, e) by rw [PE.out, h1]; simp only [hb, if_false, h2]; rfl)
        rw [h2] at R2
        rw [C2.out]
        simp only [rn3] at R2
        clear h1 ls hb BL C2 BN PE h2
        go_enter Tryz.func108, Tryz.ntmps108
        go_wp2_with fail
        refine (R1.out _).mono ?_
        rintro e w' ⟨rfl, rfl⟩
        go_wp2_with fail
        refine (BL2.out _).mono ?_
        rintro e w' ⟨rfl, rfl⟩
        go_wp2_with fail
        refine (R2.out _).mono ?_
        rintro e w' ⟨rfl, rfl⟩
        go_wp2
        refine bodyPost_ret (v := .tuple #[.agg #[.int .i64 0, .int .i64 0], .int .i64 p, .int .i64 e]) (by simp [results, Tryz.results108, go_sem]) rfl ?_
        exact ⟨rfl, by go_grown⟩
      | .ok (y, m) =>
        have C2 := hid (show pt3 P = (((x : Int), (y : Int)), m, 0) by rw [PE.out, h1]; simp only [hb, if_false, h2]; rfl)
        rw [h2] at R2
        rw [C2.out]
        simp only [rn3] at R2
        clear h1 ls hb BL C2 BN PE h2
        go_enter Tryz.func108, Tryz.ntmps108
        go_wp2_with fail
        refine (R1.out _).mono ?_
        rintro e w' ⟨rfl, rfl⟩
        go_wp2_with fail
        refine (BL2.out _).mono ?_
        rintro e w' ⟨rfl, rfl⟩
        go_wp2_with fail
        refine (R2.out _).mono ?_
        rintro e w' ⟨rfl, rfl⟩
        go_wp2
        refine bodyPost_ret (v := .tuple #[.agg #[.int .i64 x, .int .i64 y], .int .i64 m, .int .i64 0]) (by simp [results, Tryz.results108, go_sem]) rfl ?_
        exact ⟨rfl, by go_grown⟩

/-- What point gives. -/
def pt4 : Except (Int × Nat) ((Int × Int) × Nat) → Int → Int → Nat → Int → Nat → Prop
  | .ok (p, k), a, b, k', e, q => a = p.1 ∧ b = p.2 ∧ k' = k ∧ e = 0 ∧ q = 0
  | .error (e', p'), _, _, _, e, q => e = e' ∧ q = p'
set_option maxRecDepth 4000 in
set_option maxHeartbeats 1000000 in
theorem refPoint_any (s : ByteArray) (i : Nat) (hi : i ≤ s.size) (hs : s.size ≤ 140737488355328) (w : World) :
    Calls Tryz.prog 57 #[.string s, .int .i64 i] w fun e w' => (∃ (a b : Int) (k' : Nat) (ee : Int) (q : Nat), e = .returned (.tuple #[.agg #[.int .i64 a, .int .i64 b], .int .i64 k', .int .i64 ee, .int .i64 q]) ∧ pt4 (Pm.pnt s.data.toList i) a b k' ee q) ∧ Below w.heap.size w w' := by
  have ls : s.data.toList.length = s.size := by simp
  have R1 := hid (fun W => coordinate_any s i hi hs W)
  have PE : Hid (Pm.pnt s.data.toList i = match Pm.crd s.data.toList i with
    | .error e => .error e
    | .ok (x, k) => if Pm.blN (s.data.toList.drop k) = 0 then .error (Pm.lackE s.data.toList.length k, k) else
      match Pm.crd s.data.toList k with
      | .error e => .error e
      | .ok (y, m) => .ok (((x : Int), (y : Int)), m)) := rfl
  obtain ⟨P, hP⟩ : ∃ P, P = Pm.pnt s.data.toList i := ⟨_, rfl⟩
  rw [← hP] at PE ⊢
  clear hP
  match h1 : Pm.crd s.data.toList i with
  | .error (e, p) =>
    have e0 := err_ne (Pm.crd_err (by omega) h1).1
    have C2 := hid (show P = .error (e, p) by rw [PE.out, h1])
    rw [h1] at R1
    rw [C2.out]
    simp only [rn4] at R1
    clear h1 ls
    go_enter Tryz.func57, Tryz.ntmps57
    go_wp2_with (first | (go_at_call 82; refine (R1.out _).mono ?_; rintro e w' ⟨rfl, rfl⟩))
    refine bodyPost_ret (v := .tuple #[.agg #[.int .i64 0, .int .i64 0], .int .i64 (0 : Nat), .int .i64 e, .int .i64 p]) (by simp [results, Tryz.results57, go_sem]) rfl ?_
    exact ⟨⟨0, 0, 0, e, p, rfl, rfl, rfl⟩, by go_grown⟩
  | .ok (x, k) =>
    have ck := Pm.crd_ok (by omega) h1
    have hk : k ≤ s.size := by omega
    have SK := hid (fun W => refSkip_any s k hk hs W)
    have SS := hid (show Pm.skp s.data.toList k = k + Pm.blN (s.data.toList.drop k) from rfl)
    have sl := Pm.skp_le (l := s.data.toList) (i := k) (by omega)
    rw [ls] at sl
    have WR := hid (fun W => lacks_any s k hk W)
    have R2 := hid (fun W => coordinate_any s (Pm.skp s.data.toList k) sl hs W)
    rw [Pm.crd_skp] at R2
    obtain ⟨k2, hk2⟩ : ∃ k2, k2 = Pm.skp s.data.toList k := ⟨_, rfl⟩
    rw [← hk2] at SK SS R2 sl
    clear hk2
    rw [h1] at R1
    simp only [rn4] at R1
    by_cases hb : Pm.blN (s.data.toList.drop k) = 0
    · have C2 := hid (show P = .error (Pm.lackE s.size k, k) by rw [PE.out, h1]; simp only [hb, if_true, ls])
      have b0 : ((k2 : Int) == (k : Int)) = true := beq_iff_eq.2 (by have := SS.out; omega)
      rw [C2.out]
      obtain ⟨E, hE⟩ : ∃ E, E = Pm.lackE s.size k := ⟨_, rfl⟩
      rw [← hE] at WR ⊢
      clear h1 ls hb hE C2 PE
      go_enter Tryz.func57, Tryz.ntmps57
      go_wp2_with (first | (go_at_call 82; refine (R1.out _).mono ?_; rintro e w' ⟨rfl, rfl⟩) | (go_at_call 56; refine (SK.out _).mono ?_; rintro e w' ⟨rfl, rfl⟩) | (go_at_call 35; refine (WR.out _).mono ?_; rintro e w' ⟨rfl, rfl⟩))
      refine bodyPost_ret (v := .tuple #[.agg #[.int .i64 0, .int .i64 0], .int .i64 (0 : Nat), .int .i64 E, .int .i64 k]) (by simp [results, Tryz.results57, go_sem]) rfl ?_
      exact ⟨⟨0, 0, 0, E, k, rfl, rfl, rfl⟩, by go_grown⟩
    · have b0 : ((k2 : Int) == (k : Int)) = false := beq_eq_false_iff_ne.2 (by have := SS.out; omega)
      match h2 : Pm.crd s.data.toList k with
      | .error (e, p) =>
        have C2 := hid (show P = .error (e, p) by rw [PE.out, h1]; simp only [hb, if_false, h2])
        rw [h2] at R2
        rw [C2.out]
        simp only [rn4] at R2
        clear h1 ls hb C2 PE h2
        go_enter Tryz.func57, Tryz.ntmps57
        go_wp2_with fail
        refine (R1.out _).mono ?_
        rintro e w' ⟨rfl, rfl⟩
        go_wp2_with fail
        refine (SK.out _).mono ?_
        rintro e w' ⟨rfl, rfl⟩
        go_wp2_with fail
        refine (R2.out _).mono ?_
        rintro e w' ⟨rfl, rfl⟩
        go_wp2
        refine bodyPost_ret (v := .tuple #[.agg #[.int .i64 x, .int .i64 (0 : Nat)], .int .i64 (0 : Nat), .int .i64 e, .int .i64 p]) (by simp [results, Tryz.results57, go_sem]) rfl ?_
        exact ⟨⟨x, 0, 0, e, p, rfl, rfl, rfl⟩, by go_grown⟩
      | .ok (y, m) =>
        have C2 := hid (show P = .ok (((x : Int), (y : Int)), m) by rw [PE.out, h1]; simp only [hb, if_false, h2])
        rw [h2] at R2
        rw [C2.out]
        simp only [rn4] at R2
        clear h1 ls hb C2 PE h2
        go_enter Tryz.func57, Tryz.ntmps57
        go_wp2_with fail
        refine (R1.out _).mono ?_
        rintro e w' ⟨rfl, rfl⟩
        go_wp2_with fail
        refine (SK.out _).mono ?_
        rintro e w' ⟨rfl, rfl⟩
        go_wp2_with fail
        refine (R2.out _).mono ?_
        rintro e w' ⟨rfl, rfl⟩
        go_wp2
        refine bodyPost_ret (v := .tuple #[.agg #[.int .i64 x, .int .i64 y], .int .i64 m, .int .i64 0, .int .i64 (0 : Nat)]) (by simp [results, Tryz.results57, go_sem]) rfl ?_
        exact ⟨⟨x, y, m, 0, 0, rfl, rfl, rfl, rfl, rfl, rfl⟩, by go_grown⟩

end Go.Proofs.YtljfiefobnncaabGreatDoor

/- Reading paths: shapes. -/
namespace Go.Proofs.YtljfiefobnncaabGreatDoor
open Go.RowKit

theorem isAtB_iff {l : List UInt8} {k : Nat} (c : UInt8) : isAtB l k c.toNat = true ↔ k < l.length ∧ Pm.byt l k = c := by
  unfold isAtB Pm.byt
  by_cases h : k < l.length
  · rw [List.getElem?_eq_getElem h, List.getD_eq_getElem?_getD, List.getElem?_eq_getElem h]
    simp only [beq_iff_eq, Option.getD_some, h, true_and]
    constructor
    · intro e; exact UInt8.toNat_inj.1 (by omega)
    · intro e; rw [e]
  · rw [List.getElem?_eq_none (by omega)]
    simp [h]
theorem isAtB_no {l : List UInt8} {k : Nat} (c : UInt8) (h : isAtB l k c.toNat = false) (hk : k < l.length) : Pm.byt l k ≠ c := fun e => by
  rw [(isAtB_iff c).2 ⟨hk, e⟩] at h; cases h
theorem two_cellsY (w : World) (g : Nat) (a b : Int) (t : TypeId) (hg : g = w.heap.size) : ∀ (j : Nat) (u : Value), [Value.int .i64 a, .int .i64 b][j]? = some u → (w.alloc (.cells #[.int .i64 a, .int .i64 b] t)).cell? ((⟨g, 0, none⟩ : Addr).add j) = some u := by
  subst hg
  exact two_cells w a b t
/-- What readShape gives. -/
def ShpOut (l : List UInt8) (i b : Nat) (v : Value) (k : Nat) (ee : Int) (w' : World) : Prop :=
  (ee = 0 ∧ ∃ pts : List (Int × Int), 0 < pts.length ∧ Qm.Small pts ∧ w'.ownsRow b 65 2 v pts.length (Qm.ptsV pts) ∧ i < k ∧ k ≤ l.length ∧ pts.length ≤ k ∧ ∀ out, Pm.Rch l ⟨i, false, [], out⟩ ⟨Pm.skp l k, false, [], out ++ [pts]⟩) ∨
  (v = .slice none 0 0 ∧ (ee = 1 ∨ ee = 2 ∨ ee = 3) ∧ k ≤ l.length ∧ ∀ out, Pm.Says l ⟨i, false, [], out⟩ (.error (ee, k)))

/-- What holds in readShape's loop: one is at j, with the points pts. -/
structure SI (l : List UInt8) (i b j : Nat) (pts : List (Int × Int)) (v : Value) (w wr : World) : Prop where
  lo : i ≤ j
  hi : j ≤ l.length
  fst : pts.length = 0 → j = i
  few : pts.length ≤ j
  small : Qm.Small pts
  own : wr.ownsRow b 65 2 v pts.length (Qm.ptsV pts)
  bl : Below b w wr
  rch : ∀ out, Pm.Rch l ⟨i, false, [], out⟩ ⟨j, decide (0 < pts.length), pts, out⟩
theorem letter_if (n : Nat) : (if decide (0 < n) = true then (76 : UInt8) else 77) = if n = 0 then 77 else 76 := by
  by_cases h : n = 0
  · subst h; rfl
  · rw [if_pos (by simp; omega), if_neg h]
theorem SI.wrong {l : List UInt8} {i b j : Nat} {pts : List (Int × Int)} {v : Value} {w wr : World} (h : SI l i b j pts v w wr) (hil : i < l.length) (h1 : isAtB l j (if pts.length = 0 then (77 : UInt8) else 76).toNat = false) (h2 : pts.length = 0 ∨ isAtB l j (122 : UInt8).toNat = false) (out : List (List (Int × Int))) :
    Pm.Says l ⟨i, false, [], out⟩ (.error (Pm.lackE l.length j, j)) := by
  refine ⟨_, h.rch out, ?_⟩
  by_cases hj : j < l.length
  · have e : Pm.lackE l.length j = 1 := Pm.lackE_syntax (by omega)
    rw [e]
    refine Pm.stp_bad hj (fun ho => ?_) ?_
    · simp only [decide_eq_true_eq] at ho
      exact isAtB_no 122 (h2.resolve_left (by omega)) hj
    · rw [letter_if]; exact isAtB_no _ h1 hj
  · have ej : j = l.length := by have := h.hi; omega
    have hp : 0 < pts.length := by
      rcases Nat.eq_zero_or_pos pts.length with h0 | h0
      · have := h.fst h0; omega
      · exact h0
    have e : Pm.lackE l.length j = 2 := Pm.lackE_short (by omega)
    rw [e, decide_eq_true hp, ej]
    exact Pm.stp_short (Nat.le_refl _)

set_option maxRecDepth 4000 in
set_option maxHeartbeats 2000000 in
theorem pReadShape_any (s : ByteArray) (i : Nat) (hi : i < s.size) (hs : s.size ≤ 1073741824) (w : World) :
    Calls Tryz.prog 81 #[.string s, .int .i64 i] w fun e w' => (∃ (v : Value) (k : Nat) (ee : Int), e = .returned (.tuple #[v, .int .i64 k, .int .i64 ee]) ∧ ShpOut s.data.toList i w.heap.size v k ee w') ∧ Below w.heap.size w w' := by
  obtain ⟨ip, hip, hp0, hp1, hp2⟩ := info_parts infoPoint
  have ls : s.data.toList.length = s.size := by simp
  obtain ⟨l, hl⟩ : ∃ l, l = s.data.toList := ⟨_, rfl⟩
  have IA := hid (fun k c (h : k ≤ s.size) W => isAt_any s k c (by omega) W)
  have RP := hid (fun k (h : k ≤ s.size) W => pReadPoint_any s k h (by omega) W)
  have SK := hid (fun k (h : k ≤ s.size) W => pSkip_any s k h (by omega) W)
  have WR := hid (fun k W => wrongAt_any s k W)
  rw [← hl] at IA RP SK ls ⊢
  rw [← ls] at hi
  have LS := hid ls
  clear hl
  have I0 := hid (show SI l i w.heap.size i [] (.slice none 0 0) w w from ⟨Nat.le_refl _, by omega, fun _ => rfl, Nat.zero_le _, fun p hp => by simp at hp, World.ownsRow_nil _ _ _ _, Below.refl _ _, fun out => .refl _⟩)
  go_enter Tryz.func81, Tryz.ntmps81
  go_wp2_with fail
  go_loopw [1, 7, 8] (fun jv v cv wr => ∃ (j : Nat) (pts : List (Int × Int)) (c : Nat), jv = .int .i64 j ∧ cv = .int .u8 c ∧ c = (if pts.length = 0 then (77 : UInt8) else 76).toNat ∧ Hid (SI l i w.heap.size j pts v w wr)) (fun jv _ _ _ => l.length - (intOf jv).toNat)
  case atStart => exact ⟨i, [], 77, rfl, rfl, rfl, I0⟩
  case round =>
    clear I0
    obtain ⟨j, pts, c, rfl, rfl, hc, hI⟩ := hrel
    have hj := hI.out.hi
    have few := hI.out.few
    have hz := hI.out.bl.size
    have HC := hid hc
    have IC := hid (IA.out j c (by omega))
    clear hc
    cases ha : isAtB l j c
    · rw [ha] at IC
      have HA := hid ha
      have IZ := hid (IA.out j 122 (by omega))
      have WJ := hid (WR.out j)
      clear ha
      by_cases p0 : pts.length = 0
      · have WG := hid (fun out => hI.out.wrong hi (by rw [← HC.out]; exact HA.out) (.inl p0) out)
        obtain ⟨E, hE⟩ : ∃ E, E = Pm.lackE s.size j := ⟨_, rfl⟩
        have HE := hid (show E = Pm.lackE l.length j by rw [hE, LS.out])
        rw [← hE] at WJ
        obtain ⟨ao, cap, hv⟩ := own_len hI.out.own
        subst hv
        have e0 : ((pts.length : Int) == 0) = true := by simp [p0]
        obtain ⟨m, hm⟩ : ∃ m, m = pts.length := ⟨_, rfl⟩
        rw [← hm] at e0 ⊢
        clear p0 hE hm
        go_wp2_with fail
        refine (IC.out _).mono ?_
        rintro e w1 ⟨rfl, e1⟩
        subst e1
        go_wp2_with fail
        refine (WJ.out _).mono ?_
        rintro e w1 ⟨rfl, e1⟩
        subst e1
        go_wp2
        go_ret3
        exact ⟨⟨_, j, E, rfl, .inr ⟨rfl, by rw [HE.out]; exact lackE_in _ _, hj, fun out => by rw [HE.out]; exact WG.out out⟩⟩, hI.out.bl⟩
      · cases hz2 : isAtB l j 122
        · have WG := hid (fun out => hI.out.wrong hi (by rw [← HC.out]; exact HA.out) (.inr hz2) out)
          rw [hz2] at IZ
          obtain ⟨E, hE⟩ : ∃ E, E = Pm.lackE s.size j := ⟨_, rfl⟩
          have HE := hid (show E = Pm.lackE l.length j by rw [hE, LS.out])
          rw [← hE] at WJ
          obtain ⟨ao, cap, hv⟩ := own_len hI.out.own
          subst hv
          have e0 : ((pts.length : Int) == 0) = false := beq_eq_false_iff_ne.2 (by omega)
          obtain ⟨m, hm⟩ : ∃ m, m = pts.length := ⟨_, rfl⟩
          rw [← hm] at e0 ⊢
          clear p0 hE hm hz2
          go_wp2_with fail
          refine (IC.out _).mono ?_
          rintro e w1 ⟨rfl, e1⟩
          subst e1
          go_wp2_with fail
          refine (IZ.out _).mono ?_
          rintro e w1 ⟨rfl, e1⟩
          subst e1
          go_wp2_with fail
          refine (WJ.out _).mono ?_
          rintro e w1 ⟨rfl, e1⟩
          subst e1
          go_wp2
          go_ret3
          exact ⟨⟨_, j, E, rfl, .inr ⟨rfl, by rw [HE.out]; exact lackE_in _ _, hj, fun out => by rw [HE.out]; exact WG.out out⟩⟩, hI.out.bl⟩
        · obtain ⟨hjl, hbz⟩ := (isAtB_iff (122 : UInt8)).1 hz2
          have DN := hid (fun out => (hI.out.rch out).snoc (show Pm.stp l ⟨j, decide (0 < pts.length), pts, out⟩ = .inl ⟨Pm.skp l (j + 1), false, [], out ++ [pts]⟩ by rw [decide_eq_true (show 0 < pts.length by omega)]; exact Pm.stp_z hjl hbz))
          rw [hz2] at IZ
          obtain ⟨ao, cap, hv⟩ := own_len hI.out.own
          subst hv
          have e0 : ((pts.length : Int) == 0) = false := beq_eq_false_iff_ne.2 (by omega)
          have P0 := hid (show 0 < pts.length by omega)
          obtain ⟨m, hm⟩ : ∃ m, m = pts.length := ⟨_, rfl⟩
          have HMM := hid hm
          rw [← hm] at e0 ⊢
          have lo := hI.out.lo
          clear p0 hm hz2 hbz
          go_wp2_with fail
          refine (IC.out _).mono ?_
          rintro e w1 ⟨rfl, e1⟩
          subst e1
          go_wp2_with fail
          refine (IZ.out _).mono ?_
          rintro e w1 ⟨rfl, e1⟩
          subst e1
          go_wp2
          go_ret3
          exact ⟨⟨.slice ao m cap, j + 1, 0, by rw [show ((j + 1 : Nat) : Int) = (j : Int) + 1 from by omega]; rfl, .inl ⟨rfl, pts, P0.out, hI.out.small, by have := hI.out.own; rw [← HMM.out] at this ⊢; exact this, by omega, by omega, by omega, DN.out⟩⟩, hI.out.bl⟩
    · obtain ⟨hjl, hbc⟩ := (isAtB_iff (if pts.length = 0 then (77 : UInt8) else 76)).1 (by rw [← HC.out]; exact ha)
      rw [ha] at IC
      have BC := hid (show Pm.byt l j = if decide (0 < pts.length) = true then 76 else 77 by rw [letter_if]; exact hbc)
      have R1 := hid (RP.out (j + 1) (by omega))
      clear ha hbc
      match hp : Pm.pnt l (j + 1) with
      | .error (ee, p) =>
        have pe := Pm.pnt_err (l := l) (i := j + 1) (by omega) hp
        have WG := hid (show ∀ out, Pm.Says l ⟨i, false, [], out⟩ (.error (ee, p)) from fun out => ⟨_, hI.out.rch out, Pm.stp_err hjl BC.out hp⟩)
        have e0 := err_ne pe.1
        have PE := hid pe
        rw [hp] at R1
        simp only [pt3] at R1
        have R2 := hid (show ∀ W, Calls Tryz.prog 108 #[.string s, .int .i64 ((j : Int) + 1)] W fun e w' => e = .returned (.tuple #[.agg #[.int .i64 0, .int .i64 0], .int .i64 p, .int .i64 ee]) ∧ Below W.heap.size W w' from fun W => by have := R1.out W; simpa using this)
        clear hp pe R1
        go_wp2_with fail
        refine (IC.out _).mono ?_
        rintro e w1 ⟨rfl, e1⟩
        subst e1
        go_wp2_with fail
        refine (R2.out _).mono ?_
        rintro e w2 ⟨rfl, hb2⟩
        have B2 := hid (show Below w.heap.size w w2 from hI.out.bl.trans (hb2.mono hz))
        have s2 := B2.out.size
        clear hb2
        go_wp2
        go_ret3
        exact ⟨⟨_, p, ee, rfl, .inr ⟨rfl, PE.out.1, PE.out.2, WG.out⟩⟩, by go_grown; exact B2.out⟩
      | .ok (q, k) =>
        have pk := Pm.pnt_ok (l := l) (i := j + 1) (by omega) hp
        obtain ⟨⟨hq1, hq2, hq3, hq4⟩, hk1, hk2⟩ := pk
        have ST := hid (fun out => (hI.out.rch out).snoc (Pm.stp_pt hjl BC.out hp))
        rw [hp] at R1
        simp only [pt3] at R1
        obtain ⟨px, py⟩ := q
        dsimp only at hq1 hq2 hq3 hq4 R1
        have R2 := hid (show ∀ W, Calls Tryz.prog 108 #[.string s, .int .i64 ((j : Int) + 1)] W fun e w' => e = .returned (.tuple #[.agg #[.int .i64 px, .int .i64 py], .int .i64 k, .int .i64 0]) ∧ Below W.heap.size W w' from fun W => by have := R1.out W; simpa using this)
        have S1 := hid (SK.out k (by omega))
        have kge := Pm.skp_ge l k
        have kle := Pm.skp_le hk2
        obtain ⟨k2, hk2'⟩ : ∃ k2, k2 = Pm.skp l k := ⟨_, rfl⟩
        rw [← hk2'] at S1 ST kge kle
        obtain ⟨ao, cap, hv⟩ := own_len hI.out.own
        subst hv
        have SM := hid (show Qm.Small (pts ++ [(px, py)]) from fun p hp => by
          rcases List.mem_append.1 hp with h | h
          · exact hI.out.small p h
          · rw [List.mem_singleton] at h; subst h; exact ⟨hq1, hq2, hq3, hq4⟩)
        have m1 : pts.length + 1 ≤ maxLen := by unfold maxLen; omega
        have m2 : (pts.length + 1) * 16 ≤ 140737488355328 := by omega
        clear hp R1 hk2'
        go_wp2_with fail
        refine (IC.out _).mono ?_
        rintro e w1 ⟨rfl, e1⟩
        subst e1
        go_wp2_with fail
        refine (R2.out _).mono ?_
        rintro e w2 ⟨rfl, hb2⟩
        have B2 := hid (show Below w.heap.size w w2 from hI.out.bl.trans (hb2.mono hz))
        have O2 := hid (own_below hI.out.own hb2)
        have s2 := B2.out.size
        have B3 := hid (show Below w.heap.size w ((w2.alloc (.cells #[.int .i64 px, .int .i64 py] 65)).alloc (.cells #[.int .i64 px, .int .i64 py] 65)) from (B2.out.alloc s2 _).alloc (by simp; omega) _)
        have m3 : w.heap.size ≤ ((w2.alloc (.cells #[.int .i64 px, .int .i64 py] 65)).alloc (.cells #[.int .i64 px, .int .i64 py] 65)).heap.size := by simp; omega
        clear hb2
        go_wp2_with (first
          | (at_builtin; refine wpList_append_own _ rfl _ _ 43 rfl w.heap.size 65 ip (.agg #[.int .i64 0, .int .i64 0]) 2 16 Tryz.underlying43 hip hp0 hp1 hp2 rfl (by decide) _ _ _ rfl ((O2.out.alloc _).alloc _) ⟨_, 0, none⟩ 1 1 [.int .i64 px, .int .i64 py] rfl rfl (two_cellsY _ _ _ _ _ (by simp)) (two_one _ _) m1 m2 m3 ?_))
        intro v' w5 hown' hgrow _
        have B5 := hid (show Below w.heap.size w w5 from B3.out.grown hgrow m3 (fun k hk => (O2.out.lt k hk).1))
        have O5 := hid (show w5.ownsRow w.heap.size 65 2 v' (pts ++ [(px, py)]).length (Qm.ptsV (pts ++ [(px, py)])) by rw [Qm.ptsV_snoc, List.length_append]; exact hown')
        have LO := hI.out.lo
        have NI := hid (show SI l i w.heap.size k2 (pts ++ [(px, py)]) v' w w5 from ⟨by omega, kle, fun h => by simp at h, by rw [List.length_append, List.length_singleton]; omega, SM.out, O5.out, B5.out, fun out => by rw [decide_eq_true (by simp)]; exact ST.out out⟩)
        clear hown' hgrow
        go_wp2_with fail
        refine (S1.out _).mono ?_
        rintro e w6 ⟨rfl, e6⟩
        subst e6
        go_wp2
        go_roundw
        case rel => exact ⟨k2, pts ++ [(px, py)], 76, rfl, rfl, by rw [if_neg (by simp)]; rfl, NI⟩
        case measure => simp [intOf]; omega

end Go.Proofs.YtljfiefobnncaabGreatDoor

/- Reading paths: the whole; outline.Shapes. -/
namespace Go.Proofs.YtljfiefobnncaabGreatDoor
open Go.RowKit

/-- What reading a path gives. -/
def ShsOut (l : List UInt8) (b : Nat) (vl : Value) (ee : Int) (p : Nat) (w' : World) : Prop :=
  (ee = 0 ∧ p = 0 ∧ ∃ L : List (Value × List (Int × Int)), RowP b vl L w' ∧ (∀ q ∈ L, 0 < q.2.length ∧ Qm.Small q.2 ∧ q.2.length ≤ l.length) ∧ L.length ≤ l.length ∧ Pm.Says l (Pm.st0 l) (.ok (L.map (·.2)))) ∨
  (vl = .slice none 0 0 ∧ (ee = 1 ∨ ee = 2 ∨ ee = 3) ∧ Pm.Says l (Pm.st0 l) (.error (ee, p)))
theorem Says_of {l : List UInt8} {s t : Pm.St} {a : Pm.Ans} (h : Pm.Rch l s t) (k : Pm.Says l t a) : Pm.Says l s a := by
  obtain ⟨u, k1, k2⟩ := k
  exact ⟨u, h.trans k1, k2⟩
/-- What holds in Read's loop. -/
structure LI (l : List UInt8) (b j : Nat) (L : List (Value × List (Int × Int))) (v : Value) (w wr : World) : Prop where
  hi : j ≤ l.length
  few : L.length ≤ j
  row : RowP b v L wr
  pts : ∀ q ∈ L, 0 < q.2.length ∧ Qm.Small q.2 ∧ q.2.length ≤ l.length
  bl : Below b w wr
  rch : Pm.Rch l (Pm.st0 l) ⟨j, false, [], L.map (·.2)⟩

set_option maxRecDepth 4000 in
set_option maxHeartbeats 2000000 in
theorem pRead_any (s : ByteArray) (hs : s.size ≤ 1073741824) (w : World) :
    Calls Tryz.prog 55 #[.string s] w fun e w' => (∃ (v : Value) (ee : Int) (p : Nat), e = .returned (.tuple #[v, .int .i64 ee, .int .i64 p]) ∧ ShsOut s.data.toList w.heap.size v ee p w') ∧ Below w.heap.size w w' := by
  obtain ⟨i0, hi0, hz0, hz1, hz2⟩ := info_parts infoShape
  have ls : s.data.toList.length = s.size := by simp
  obtain ⟨l, hl⟩ : ∃ l, l = s.data.toList := ⟨_, rfl⟩
  have RS := hid (fun k (h : k < s.size) W => pReadShape_any s k h hs W)
  have SK := hid (fun k (h : k ≤ s.size) W => pSkip_any s k h (by omega) W)
  rw [← hl] at RS SK ls ⊢
  have LS := hid ls
  have k0 := Pm.skp_le (l := l) (i := 0) (Nat.zero_le _)
  have SK0 := hid (SK.out 0 (Nat.zero_le _))
  have I0 := hid (show LI l w.heap.size (Pm.skp l 0) [] (.slice none 0 0) w w from ⟨k0, Nat.zero_le _, RowP.nil _ _, fun q hq => by simp at hq, Below.refl _ _, .refl _⟩)
  obtain ⟨j0, hj0⟩ : ∃ j0, j0 = Pm.skp l 0 := ⟨_, rfl⟩
  rw [← hj0] at SK0 I0
  have SK1 := hid (show ∀ W, Calls Tryz.prog 80 #[.string s, .int .i64 0] W fun e w' => e = .returned (.int .i64 j0) ∧ w' = W from fun W => by simpa using SK0.out W)
  clear hl hj0 k0 SK0
  go_enter Tryz.func55, Tryz.ntmps55
  go_wp2_with fail
  refine (SK1.out _).mono ?_
  rintro e w1 ⟨rfl, e1⟩
  subst e1
  go_wp2_with fail
  go_loopw [5, 6] (fun v jv wr => ∃ (j : Nat) (L : List (Value × List (Int × Int))), jv = .int .i64 j ∧ Hid (LI l w1.heap.size j L v w1 wr)) (fun _ jv _ => l.length - (intOf jv).toNat)
  case atStart => exact ⟨j0, [], rfl, I0⟩
  case round =>
    clear I0
    obtain ⟨j, L, rfl, hI⟩ := hrel
    have hj := hI.out.hi
    have few := hI.out.few
    have hz := hI.out.bl.size
    obtain ⟨ao, cap, hv⟩ := own_len hI.out.row.row
    subst hv
    by_cases hlt : j < l.length
    · have R1 := hid (RS.out j (by omega))
      have j1' : ((j : Nat) : Int) < (s.size : Nat) := by omega
      go_wp2_with fail
      refine (R1.out _).mono ?_
      rintro e w2 ⟨⟨v2, k, ee, rfl, ho⟩, hb2⟩
      have HB2 := hid hb2
      have B2 := hid (show Below w1.heap.size w1 w2 from hI.out.bl.trans (hb2.mono hz))
      have s2 := B2.out.size
      have z2 := hb2.size
      clear hb2
      rcases ho with ⟨rfl, pts, p0, psm, pown, hjk, hkl, pfew, prch⟩ | ⟨rfl, he, hkl, hsay⟩
      · obtain ⟨g, cp, rfl, hg, hpt, -⟩ := own_at pown p0
        have OW := hid pown
        have PT := hid hpt
        have TW := hid (twice_big g pts.length cp pts rfl p0 psm (by omega) w2 hpt)
        have P0 := hid p0
        have PS := hid psm
        have RC := hid prch
        have S1 := hid (SK.out k (by omega))
        have kge := Pm.skp_ge l k
        have kle := Pm.skp_le hkl
        obtain ⟨k2, hk2⟩ : ∃ k2, k2 = Pm.skp l k := ⟨_, rfl⟩
        rw [← hk2] at S1 RC kge kle
        obtain ⟨m, hm⟩ : ∃ m, m = pts.length := ⟨_, rfl⟩
        rw [← hm] at TW ⊢
        have HMM := hid hm
        obtain ⟨tw, htw⟩ : ∃ tw, tw = Qm.twiceOf pts := ⟨_, rfl⟩
        rw [← htw] at TW
        have HTW := hid htw
        have n1 : L.length + 1 ≤ maxLen := by unfold maxLen; omega
        have n2 : (L.length + 1) * 32 ≤ 140737488355328 := by omega
        clear pown hpt p0 psm prch hk2 hm htw
        go_wp2_with fail
        refine TW.out.mono ?_
        rintro e w4 ⟨rfl, b4⟩
        have HB4 := hid b4
        have z4 := b4.size
        clear b4
        have n3 : w1.heap.size ≤ (w4.alloc (.cells #[.slice (some ⟨g, 0, none⟩) m cp, .int .i64 tw] 67)).heap.size := by simp; omega
        have R4 := hid ((hI.out.row.on HB2.out).on HB4.out)
        go_wp2_with (first
          | (at_builtin; refine wpList_append_own_at _ rfl _ _ 33 rfl w1.heap.size 67 i0 (.agg #[.slice none 0 0, .int .i64 0]) 2 32 Tryz.underlying33 hi0 hz0 hz1 hz2 rfl (by decide) _ _ _ rfl (R4.out.row.alloc _) ⟨_, 0, none⟩ 1 1 [.slice (some ⟨g, 0, none⟩) m cp, .int .i64 tw] rfl rfl (vt_cells _ _ _ _ _ _ _ rfl) (vt_one _ _ _ _) n1 n2 n3 ?_))
        intro vl' w5 o5 g5 _ e5
        have RP5 := hid (hI.out.row.snoc (v := .slice (some ⟨g, 0, none⟩) m cp) (l := pts) (vl' := vl') (by omega) HB2.out (by have := OW.out; rw [← HMM.out] at this ⊢; exact this) P0.out HB4.out (by rw [← HTW.out]; exact o5) g5 (by simpa using e5))
        have B5 := hid (show Below w1.heap.size w1 w5 from ((B2.out.trans (HB4.out.mono (by omega))).alloc (by omega) _).grown g5 n3 (fun q hq => (R4.out.row.lt q hq).1))
        have NI := hid (show LI l w1.heap.size k2 (L ++ [(.slice (some ⟨g, 0, none⟩) m cp, pts)]) vl' w1 w5 from ⟨kle, by rw [List.length_append, List.length_singleton]; omega, RP5.out, fun q hq => by
          rcases List.mem_append.1 hq with h | h
          · exact hI.out.pts q h
          · rw [List.mem_singleton] at h; subst h; exact ⟨P0.out, PS.out, by show pts.length ≤ _; omega⟩, B5.out, by rw [List.map_append]; exact hI.out.rch.trans (RC.out _)⟩)
        clear o5 g5 e5
        go_wp2_with fail
        refine (S1.out _).mono ?_
        rintro e w6 ⟨rfl, e6⟩
        subst e6
        go_wp2
        go_roundw
        case rel => exact ⟨k2, _, rfl, NI⟩
        case measure => simp [intOf]; omega
      · have e0 := err_ne he
        have WG := hid (Says_of hI.out.rch (hsay _))
        have HE := hid he
        clear he hsay
        go_wp2
        go_ret3
        exact ⟨⟨_, ee, k, rfl, .inr ⟨rfl, HE.out, WG.out⟩⟩, B2.out⟩
    · have j1' : ((s.size : Nat) : Int) ≤ (j : Nat) := by omega
      have WG := hid (show Pm.Says l (Pm.st0 l) (.ok (L.map (·.2))) from ⟨_, hI.out.rch, Pm.stp_end (by omega)⟩)
      obtain ⟨m, hm⟩ : ∃ m, m = L.length := ⟨_, rfl⟩
      have HMM := hid hm
      rw [← hm]
      clear hm
      go_wp2
      go_ret3
      exact ⟨⟨.slice ao m cap, 0, 0, rfl, .inl ⟨rfl, rfl, L, by have := hI.out.row; rw [← HMM.out] at this; exact this, hI.out.pts, by omega, WG.out⟩⟩, hI.out.bl⟩

set_option maxRecDepth 4000 in
set_option maxHeartbeats 400000 in
theorem shapes_any (s : ByteArray) (hs : s.size ≤ 1073741824) (w : World) :
    Calls Tryz.prog 29 #[.string s] w fun e w' => (∃ (v : Value) (ee : Int) (p : Nat), e = .returned (.tuple #[v, .int .i64 ee, .int .i64 p]) ∧ ShsOut s.data.toList w.heap.size v ee p w') ∧ Below w.heap.size w w' := by
  have R := hid (pRead_any s hs w)
  go_enter Tryz.func29, Tryz.ntmps29
  go_wp2_with fail
  refine R.out.mono ?_
  rintro e w1 ⟨⟨v, ee, p, rfl, ho⟩, hb⟩
  have HO := hid ho
  have HB := hid hb
  clear ho hb
  go_wp2
  go_ret3
  exact ⟨⟨v, ee, p, rfl, HO.out⟩, HB.out⟩

end Go.Proofs.YtljfiefobnncaabGreatDoor
