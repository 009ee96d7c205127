import Derived.Test.YtljfiefobnncaabDoorK01
import Derived.Test.YtljfiefobnncaabDoorK02
import Derived.Handy

/- Plain facts on reading: gaps, numbers, pixels. Nothing of the program stands here. -/
namespace Go.Proofs.YtljfiefobnncaabDoor.Pm

def blankB (c : UInt8) : Bool := c == 32 || c == 10 || c == 9 || c == 13
def digitB (c : UInt8) : Bool := decide (48 ≤ c.toNat ∧ c.toNat ≤ 57)
theorem blankB_eq (c : UInt8) : blankB c = ((c.toNat : Int) == 32 || (c.toNat : Int) == 10 || (c.toNat : Int) == 9 || (c.toNat : Int) == 13) := by
  have e : ∀ k : UInt8, (c == k) = ((c.toNat : Int) == (k.toNat : Int)) := by
    intro k
    rw [Bool.eq_iff_iff]
    simp only [beq_iff_eq]
    constructor
    · intro h; rw [h]
    · intro h; exact UInt8.toNat_inj.1 (by omega)
  rw [blankB, e, e, e, e]; rfl
theorem digitB_eq (c : UInt8) : digitB c = (decide ((48 : Int) ≤ c.toNat) && decide ((c.toNat : Int) ≤ 57)) := by
  rw [Bool.eq_iff_iff]; simp only [digitB, decide_eq_true_eq, Bool.and_eq_true]; omega
theorem drop_at (s : ByteArray) (k : Nat) (hk : k < s.size) : s.data.toList.drop k = s[k] :: s.data.toList.drop (k + 1) := by
  rw [List.drop_eq_getElem_cons (by simpa using hk)]; rfl
theorem drop_end (s : ByteArray) (k : Nat) (hk : s.size ≤ k) : s.data.toList.drop k = [] := List.drop_of_length_le (by simpa using hk)

/-- How many bytes a gap takes; c: within a comment. -/
def skipG : List UInt8 → Bool → Nat
  | [], _ => 0
  | x :: r, c => if (c || (x.toNat : Int) == 35 || blankB x) = true then 1 + skipG r (!((x.toNat : Int) == 10) && ((x.toNat : Int) == 35 || c)) else 0
theorem skip_step (s : ByteArray) (k : Nat) (hk : k < s.size) (c : Bool) : skipG (s.data.toList.drop k) c = if (c || (s[k].toNat : Int) == 35 || blankB s[k]) = true then 1 + skipG (s.data.toList.drop (k + 1)) (!((s[k].toNat : Int) == 10) && ((s[k].toNat : Int) == 35 || c)) else 0 := by
  rw [drop_at s k hk, skipG]
theorem skip_end (s : ByteArray) (k : Nat) (hk : s.size ≤ k) (c : Bool) : skipG (s.data.toList.drop k) c = 0 := by
  rw [drop_end s k hk, skipG]
theorem skipG_le : ∀ (l : List UInt8) (c : Bool), skipG l c ≤ l.length
  | [], _ => Nat.le_refl _
  | x :: r, c => by
    rw [skipG]
    have := skipG_le r (!((x.toNat : Int) == 10) && ((x.toNat : Int) == 35 || c))
    simp only [List.length_cons]
    split <;> omega
theorem skip_in (s : ByteArray) (k : Nat) (hk : k < s.size) (h : ((s[k].toNat : Int) == 10) = false) : skipG (s.data.toList.drop k) true = 1 + skipG (s.data.toList.drop (k + 1)) true := by
  rw [skip_step s k hk, if_pos (by simp), h]; simp
theorem skip_nl (s : ByteArray) (k : Nat) (hk : k < s.size) (h : ((s[k].toNat : Int) == 10) = true) : skipG (s.data.toList.drop k) true = 1 + skipG (s.data.toList.drop (k + 1)) false := by
  rw [skip_step s k hk, if_pos (by simp), h]; simp
theorem skip_hash (s : ByteArray) (k : Nat) (hk : k < s.size) (h : ((s[k].toNat : Int) == 35) = true) (c : Bool) : skipG (s.data.toList.drop k) c = 1 + skipG (s.data.toList.drop (k + 1)) true := by
  have q10 : ((s[k].toNat : Int) == 10) = false := by have := eq_of_beq h; rw [this]; rfl
  rw [skip_step s k hk, if_pos (by simp [h]), h, q10]; simp
theorem skip_blank (s : ByteArray) (k : Nat) (hk : k < s.size) (h : ((s[k].toNat : Int) == 35) = false) (hb : blankB s[k] = true) : skipG (s.data.toList.drop k) false = 1 + skipG (s.data.toList.drop (k + 1)) false := by
  rw [skip_step s k hk, if_pos (by simp [hb]), h]; simp
theorem skip_not (s : ByteArray) (k : Nat) (hk : k < s.size) (h : ((s[k].toNat : Int) == 35) = false) (hb : blankB s[k] = false) : skipG (s.data.toList.drop k) false = 0 := by
  rw [skip_step s k hk, if_neg (by simp [hb, h])]
/-- Where the gap from a on ends. -/
def gapEnd (l : List UInt8) (a : Nat) : Nat := a + skipG (l.drop a) false
theorem gapEnd_le (l : List UInt8) (a : Nat) (h : a ≤ l.length) : gapEnd l a ≤ l.length := by
  have := skipG_le (l.drop a) false
  rw [List.length_drop] at this
  rw [gapEnd]; omega
theorem gapEnd_ge (l : List UInt8) (a : Nat) : a ≤ gapEnd l a := by rw [gapEnd]; omega

/-- How many blanks stand ahead. -/
def blanks : List UInt8 → Nat
  | [] => 0
  | x :: r => if blankB x = true then 1 + blanks r else 0
theorem blanks_step (s : ByteArray) (k : Nat) (hk : k < s.size) : blanks (s.data.toList.drop k) = if blankB s[k] = true then 1 + blanks (s.data.toList.drop (k + 1)) else 0 := by
  rw [drop_at s k hk, blanks]
theorem blanks_end (s : ByteArray) (k : Nat) (hk : s.size ≤ k) : blanks (s.data.toList.drop k) = 0 := by rw [drop_end s k hk, blanks]
theorem blanks_le : ∀ (l : List UInt8), blanks l ≤ l.length
  | [] => Nat.le_refl _
  | x :: r => by
    rw [blanks]
    have := blanks_le r
    simp only [List.length_cons]
    split <;> omega

/-- What is wrong at a place where nothing that stands there may stand. -/
def lackE (n a : Nat) : Int := if n ≤ a then 2 else 1
theorem lackE_short {n a : Nat} (h : n ≤ a) : lackE n a = 2 := if_pos h
theorem lackE_syntax {n a : Nat} (h : ¬ n ≤ a) : lackE n a = 1 := if_neg h

/-- A number, held at 33 at most; n: what is read so far. -/
def numV : Nat → List UInt8 → Nat
  | n, [] => n
  | n, x :: r => if digitB x = true then numV (min (10 * n + (x.toNat - 48)) 33) r else n
def numC : List UInt8 → Nat
  | [] => 0
  | x :: r => if digitB x = true then 1 + numC r else 0
theorem numV_step (s : ByteArray) (k : Nat) (hk : k < s.size) (n : Nat) : numV n (s.data.toList.drop k) = if digitB s[k] = true then numV (min (10 * n + (s[k].toNat - 48)) 33) (s.data.toList.drop (k + 1)) else n := by
  rw [drop_at s k hk, numV]
theorem numC_step (s : ByteArray) (k : Nat) (hk : k < s.size) : numC (s.data.toList.drop k) = if digitB s[k] = true then 1 + numC (s.data.toList.drop (k + 1)) else 0 := by
  rw [drop_at s k hk, numC]
theorem numV_end (s : ByteArray) (k : Nat) (hk : s.size ≤ k) (n : Nat) : numV n (s.data.toList.drop k) = n := by rw [drop_end s k hk, numV]
theorem numC_end (s : ByteArray) (k : Nat) (hk : s.size ≤ k) : numC (s.data.toList.drop k) = 0 := by rw [drop_end s k hk, numC]
theorem numV_le : ∀ (l : List UInt8) (n : Nat), n ≤ 33 → numV n l ≤ 33
  | [], n, h => h
  | x :: r, n, h => by
    rw [numV]
    split
    · exact numV_le r _ (Nat.min_le_right _ _)
    · exact h
theorem numC_le : ∀ (l : List UInt8), numC l ≤ l.length
  | [] => Nat.le_refl _
  | x :: r => by
    rw [numC]
    have := numC_le r
    simp only [List.length_cons]
    split <;> omega
/-- What a number at g gives: the number, where it ends or what is wrong stands, the error. -/
def numOut (l : List UInt8) (g n p : Nat) (e : Int) : Prop :=
  (numC (l.drop g) = 0 ∧ n = 0 ∧ p = g ∧ e = lackE l.length g) ∨
  (0 < numC (l.drop g) ∧ (numV 0 (l.drop g) = 0 ∨ 32 < numV 0 (l.drop g)) ∧ n = 0 ∧ p = g ∧ e = 3) ∨
  (0 < numC (l.drop g) ∧ 1 ≤ numV 0 (l.drop g) ∧ numV 0 (l.drop g) ≤ 32 ∧ n = numV 0 (l.drop g) ∧ p = g + numC (l.drop g) ∧ e = 0)
/-- What a gap and a number give. -/
def sideOut (l : List UInt8) (a n p : Nat) (e : Int) : Prop :=
  (gapEnd l a = a ∧ n = 0 ∧ p = a ∧ e = lackE l.length a) ∨ (a < gapEnd l a ∧ numOut l (gapEnd l a) n p e)
theorem numV_on (s : ByteArray) (k : Nat) (hk : k < s.size) (n m : Nat) (hd : digitB s[k] = true) (hm : m = min (10 * n + (s[k].toNat - 48)) 33) : numV n (s.data.toList.drop k) = numV m (s.data.toList.drop (k + 1)) := by
  rw [numV_step s k hk, if_pos hd, hm]
theorem digit_bounds {c : UInt8} (h : digitB c = true) : (48 : Int) ≤ c.toNat ∧ (c.toNat : Int) ≤ 57 := by
  have := of_decide_eq_true h; omega
end Go.Proofs.YtljfiefobnncaabDoor.Pm

/- Walks of the small functions under Read. -/
namespace Go.Proofs.YtljfiefobnncaabDoor
open Go.RowKit

theorem hidr {p : Prop} (h : p) : Hid p := h





set_option maxRecDepth 4000 in
set_option maxHeartbeats 400000 in
theorem isDigit_any (c : UInt8) (w : World) :
    Calls Tryd.prog 60 #[.int .u8 c.toNat] w fun e w' => e = .returned (.bool (Pm.digitB c)) ∧ w' = w := by
  have E := hidr (Pm.digitB_eq c)
  cases q1 : decide ((48 : Int) ≤ c.toNat)
  all_goals
    go_enter Tryd.func60, Tryd.ntmps60
    go_wp2
    go_ret
    exact ⟨ret_bool (by rw [E.out, q1]; rfl), rfl⟩



set_option maxRecDepth 4000 in
set_option maxHeartbeats 400000 in
theorem wrongAt_any (s : ByteArray) (a : Nat) (w : World) :
    Calls Tryd.prog 37 #[.string s, .int .i64 a] w fun e w' => e = .returned (.int .i64 (Pm.lackE s.size a)) ∧ w' = w := by
  by_cases h : s.size ≤ a
  · go_enter Tryd.func37, Tryd.ntmps37
    go_wp2
    go_ret
    exact ⟨ret_int (Pm.lackE_short h).symm, rfl⟩
  · go_enter Tryd.func37, Tryd.ntmps37
    go_wp2
    go_ret
    exact ⟨ret_int (Pm.lackE_syntax h).symm, rfl⟩





end Go.Proofs.YtljfiefobnncaabDoor
/- The numbers of a text: scan.Number, outlineref.Number. -/
namespace Go.Proofs.YtljfiefobnncaabDoor
open Go.RowKit

theorem results_tmp4 {fn : Func} {t u v x : Tmp} (h : fn.results = #[.tmp t, .tmp u, .tmp v, .tmp x]) (tmps : Array Value) (P : Program) (w : World) :
    (results fn tmps).run P w = .ok (.tuple #[tmps.getD t undef, tmps.getD u undef, tmps.getD v undef, tmps.getD x undef]) w := by
  simp [results, h]

theorem ret_two {k1 k2 : IntKind} {a b c d : Int} (h1 : a = c) (h2 : b = d) : Ending.returned (.tuple #[.int k1 a, .int k2 b]) = .returned (.tuple #[.int k1 c, .int k2 d]) := by rw [h1, h2]



set_option maxRecDepth 4000 in
set_option maxHeartbeats 1000000 in
theorem scanNumber_any (s : ByteArray) (g : Nat) (hg : g ≤ s.size) (hs : s.size ≤ 140737488355328) (w : World) :
    Calls Tryd.prog 50 #[.string s, .int .i64 g] w fun e w' => e = .returned (.tuple #[.int .i64 (Pm.numV 0 (s.data.toList.drop g) : Nat), .int .i64 (g + Pm.numC (s.data.toList.drop g) : Nat)]) ∧ w' = w := by
  go_enter Tryd.func50, Tryd.ntmps50
  go_wp2
  go_loop [6, 7] (fun v i => ∃ n k : Nat, n ≤ 33 ∧ g ≤ k ∧ k ≤ s.size ∧ i = .int .i64 k ∧ v = .int .i64 n ∧ Hid (Pm.numV 0 (s.data.toList.drop g) = Pm.numV n (s.data.toList.drop k) ∧ g + Pm.numC (s.data.toList.drop g) = k + Pm.numC (s.data.toList.drop k))) (fun _ i => s.size - (intOf i).toNat)
  case atStart => exact ⟨0, g, by omega, Nat.le_refl _, hg, rfl, rfl, rfl, rfl⟩
  case round =>
    obtain ⟨n, k, hn, hgk, hk, rfl, rfl, E⟩ := hrel
    have fin : ∀ (hv : Pm.numV n (s.data.toList.drop k) = n) (hc : Pm.numC (s.data.toList.drop k) = 0), Pm.numV 0 (s.data.toList.drop g) = n ∧ g + Pm.numC (s.data.toList.drop g) = k := fun hv hc => ⟨by rw [E.out.1, hv], by rw [E.out.2, hc]; omega⟩
    have FIN := hidr fin
    clear fin
    by_cases hlt : k < s.size
    · cases hd : Pm.digitB s[k]
      · have F := hidr (FIN.out (by rw [Pm.numV_step s k hlt, if_neg (by simp [hd])]) (by rw [Pm.numC_step s k hlt, if_neg (by simp [hd])]))
        go_wp2_with (go_at_call 60; refine (isDigit_any s[k] _).mono ?_; rintro e w' ⟨rfl, rfl⟩; rw [hd])
        go_ret2
        exact ⟨ret_two (by have := F.out.1; omega) (by have := F.out.2; omega), rfl⟩
      · have db := Pm.digit_bounds hd
        have C := hidr (Pm.numC_step s k hlt)
        by_cases big : 32 < 10 * (n : Int) + (s[k].toNat : Int) - 48
        · have V := hidr (Pm.numV_on s k hlt n 33 hd (by omega))
          have big2 : 32 < (n : Int) * 10 + ((s[k].toNat : Int) - 48) := by omega
          go_wp2_with (go_at_call 60; refine (isDigit_any s[k] _).mono ?_; rintro e w' ⟨rfl, rfl⟩; rw [hd])
          go_round
          case rel => exact ⟨33, k + 1, by omega, by omega, by omega, by go_num, rfl, by rw [E.out.1, V.out], by rw [E.out.2, C.out, if_pos hd]; omega⟩
          case measure => simp [intOf]; omega
        · have V := hidr (Pm.numV_on s k hlt n (10 * n + (s[k].toNat - 48)) hd (by omega))
          have big2 : ¬ 32 < (n : Int) * 10 + ((s[k].toNat : Int) - 48) := by omega
          go_wp2_with (go_at_call 60; refine (isDigit_any s[k] _).mono ?_; rintro e w' ⟨rfl, rfl⟩; rw [hd])
          go_round
          case rel => exact ⟨10 * n + (s[k].toNat - 48), k + 1, by omega, by omega, by omega, by go_num, by go_num, by rw [E.out.1, V.out], by rw [E.out.2, C.out, if_pos hd]; omega⟩
          case measure => simp [intOf]; omega
    · have F := hidr (FIN.out (Pm.numV_end s k (by omega) n) (Pm.numC_end s k (by omega)))
      go_wp2
      go_ret2
      exact ⟨ret_two (by have := F.out.1; omega) (by have := F.out.2; omega), rfl⟩

end Go.Proofs.YtljfiefobnncaabDoor

/- Plain facts on paths: what a text of shapes says, step by step; what shapes are written as. Nothing of the program stands here. -/
namespace Go.Proofs.YtljfiefobnncaabDoor.Pm

/-- Blanks and newlines alone. -/
def blB (c : UInt8) : Bool := c == 32 || c == 10
theorem blB_eq (c : UInt8) : blB c = ((c.toNat : Int) == 32 || (c.toNat : Int) == 10) := by
  have e : ∀ k : UInt8, (c == k) = ((c.toNat : Int) == (k.toNat : Int)) := by
    intro k
    rw [Bool.eq_iff_iff]
    simp only [beq_iff_eq]
    constructor
    · intro h; rw [h]
    · intro h; exact UInt8.toNat_inj.1 (by omega)
  rw [blB, e, e]; rfl
def blN : List UInt8 → Nat
  | [] => 0
  | x :: r => if blB x = true then 1 + blN r else 0
theorem blN_step (s : ByteArray) (k : Nat) (hk : k < s.size) : blN (s.data.toList.drop k) = if blB s[k] = true then 1 + blN (s.data.toList.drop (k + 1)) else 0 := by
  rw [drop_at s k hk, blN]
theorem blN_end (s : ByteArray) (k : Nat) (hk : s.size ≤ k) : blN (s.data.toList.drop k) = 0 := by rw [drop_end s k hk, blN]
theorem blN_le : ∀ (l : List UInt8), blN l ≤ l.length
  | [] => Nat.le_refl _
  | x :: r => by
    rw [blN]
    have := blN_le r
    simp only [List.length_cons]
    split <;> omega
theorem blN_idem : ∀ (l : List UInt8), blN (l.drop (blN l)) = 0
  | [] => rfl
  | x :: r => by
    rw [blN]
    split
    · rw [Nat.add_comm, List.drop_succ_cons]; exact blN_idem r
    · rename_i h; rw [List.drop_zero, blN, if_neg h]
/-- Where the blanks from i on end. -/
def skp (l : List UInt8) (i : Nat) : Nat := i + blN (l.drop i)
theorem skp_ge (l : List UInt8) (i : Nat) : i ≤ skp l i := Nat.le_add_right _ _
theorem skp_le {l : List UInt8} {i : Nat} (h : i ≤ l.length) : skp l i ≤ l.length := by
  have := blN_le (l.drop i)
  rw [List.length_drop] at this
  unfold skp; omega
theorem skp_skp (l : List UInt8) (i : Nat) : skp l (skp l i) = skp l i := by
  have : blN (l.drop (skp l i)) = 0 := by
    unfold skp
    rw [← List.drop_drop]; exact blN_idem _
  rw [skp, this]; rfl
theorem skp_no {l : List UInt8} {i : Nat} (h : blN (l.drop i) = 0) : skp l i = i := by rw [skp, h]; rfl

/-- A coordinate, with blanks ahead: it and where it ends, or what is wrong and where. -/
def crd (l : List UInt8) (i : Nat) : Except (Int × Nat) (Nat × Nat) :=
  if numC (l.drop (skp l i)) = 0 then .error (lackE l.length (skp l i), skp l i)
  else if 32 < numV 0 (l.drop (skp l i)) then .error (3, skp l i)
  else .ok (numV 0 (l.drop (skp l i)), skp l i + numC (l.drop (skp l i)))
theorem crd_skp (l : List UInt8) (i : Nat) : crd l (skp l i) = crd l i := by unfold crd; rw [skp_skp]
theorem crd_ok {l : List UInt8} {i n k : Nat} (hi : i ≤ l.length) (h : crd l i = .ok (n, k)) : n ≤ 32 ∧ i < k ∧ k ≤ l.length := by
  unfold crd at h
  split at h
  · cases h
  · split at h
    · cases h
    · rename_i h1 h2
      cases h
      have a := skp_ge l i
      have b := skp_le hi
      have c := numC_le (l.drop (skp l i))
      rw [List.length_drop] at c
      omega
theorem crd_err {l : List UInt8} {i : Nat} {e : Int} {p : Nat} (hi : i ≤ l.length) (h : crd l i = .error (e, p)) : (e = 1 ∨ e = 2 ∨ e = 3) ∧ p ≤ l.length := by
  have b := skp_le hi
  unfold crd at h
  split at h
  · cases h
    refine ⟨?_, b⟩
    unfold lackE; split <;> omega
  · split at h
    · cases h; exact ⟨by omega, b⟩
    · cases h

/-- A point. -/
def pnt (l : List UInt8) (i : Nat) : Except (Int × Nat) ((Int × Int) × Nat) :=
  match crd l i with
  | .error e => .error e
  | .ok (x, k) => if blN (l.drop k) = 0 then .error (lackE l.length k, k) else
    match crd l k with
    | .error e => .error e
    | .ok (y, m) => .ok (((x : Int), (y : Int)), m)
theorem pnt_ok {l : List UInt8} {i k : Nat} {p : Int × Int} (hi : i ≤ l.length) (h : pnt l i = .ok (p, k)) : (0 ≤ p.1 ∧ p.1 ≤ 32 ∧ 0 ≤ p.2 ∧ p.2 ≤ 32) ∧ i < k ∧ k ≤ l.length := by
  unfold pnt at h
  split at h
  · cases h
  · rename_i x k1 e1
    have a := crd_ok hi e1
    split at h
    · cases h
    · split at h
      · cases h
      · rename_i y m e2
        have b := crd_ok a.2.2 e2
        cases h
        simp only
        omega
theorem pnt_err {l : List UInt8} {i : Nat} {e : Int} {p : Nat} (hi : i ≤ l.length) (h : pnt l i = .error (e, p)) : (e = 1 ∨ e = 2 ∨ e = 3) ∧ p ≤ l.length := by
  unfold pnt at h
  split at h
  · rename_i e1; cases h; exact crd_err hi e1
  · rename_i x k1 e1
    have a := crd_ok hi e1
    split at h
    · cases h
      refine ⟨?_, a.2.2⟩
      unfold lackE; split <;> omega
    · split at h
      · rename_i e2; cases h; exact crd_err a.2.2 e2
      · cases h

/-- Where one is in a path: the place, whether a shape is open, its points, the shapes so far. -/
structure St where
  i : Nat
  o : Bool
  cur : List (Int × Int)
  out : List (List (Int × Int))
abbrev Ans := Except (Int × Nat) (List (List (Int × Int)))

def byt (l : List UInt8) (i : Nat) : UInt8 := l.getD i 0
/-- One step. -/
def stp (l : List UInt8) (s : St) : St ⊕ Ans :=
  if l.length ≤ s.i then (if s.o = true then .inr (.error (2, l.length)) else .inr (.ok s.out))
  else if byt l s.i = 122 ∧ s.o = true then .inl ⟨skp l (s.i + 1), false, [], s.out ++ [s.cur]⟩
  else if byt l s.i = (if s.o = true then 76 else 77) then
    match pnt l (s.i + 1) with
    | .error e => .inr (.error e)
    | .ok (p, k) => .inl ⟨skp l k, true, s.cur ++ [p], s.out⟩
  else .inr (.error (1, s.i))

inductive Rch (l : List UInt8) : St → St → Prop
  | refl (s : St) : Rch l s s
  | step {s t u : St} : stp l s = .inl t → Rch l t u → Rch l s u
theorem Rch.trans {l : List UInt8} {s t u : St} (h : Rch l s t) (k : Rch l t u) : Rch l s u := by
  induction h with
  | refl => exact k
  | step e _ ih => exact .step e (ih k)
theorem Rch.snoc {l : List UInt8} {s t u : St} (h : Rch l s t) (e : stp l t = .inl u) : Rch l s u := h.trans (.step e (.refl _))
/-- What a path says. -/
def Says (l : List UInt8) (s : St) (a : Ans) : Prop := ∃ t, Rch l s t ∧ stp l t = .inr a
theorem Says.unique {l : List UInt8} {s : St} {a b : Ans} (h : Says l s a) (k : Says l s b) : a = b := by
  obtain ⟨t, h1, h2⟩ := h
  obtain ⟨u, k1, k2⟩ := k
  induction h1 with
  | refl =>
    cases k1 with
    | refl => rw [h2] at k2; cases k2; rfl
    | step e _ => rw [h2] at e; cases e
  | step e _ ih =>
    cases k1 with
    | refl => rw [e] at k2; cases k2
    | step e' k1' => rw [e] at e'; cases e'; exact ih h2 k1'
/-- The first step is from behind the blanks. -/
def st0 (l : List UInt8) : St := ⟨skp l 0, false, [], []⟩

/-! What the steps are, by what stands there. -/
theorem byt_at (s : ByteArray) (i : Nat) (h : i < s.size) : byt s.data.toList i = s[i] := by
  unfold byt
  rw [List.getD_eq_getElem?_getD, List.getElem?_eq_getElem (by simpa using h)]; rfl
theorem stp_end {l : List UInt8} {i : Nat} {cur : List (Int × Int)} {out : List (List (Int × Int))} (h : l.length ≤ i) : stp l ⟨i, false, cur, out⟩ = .inr (.ok out) := by
  unfold stp; rw [if_pos h]; rfl
theorem stp_short {l : List UInt8} {i : Nat} {cur : List (Int × Int)} {out : List (List (Int × Int))} (h : l.length ≤ i) : stp l ⟨i, true, cur, out⟩ = .inr (.error (2, l.length)) := by
  unfold stp; rw [if_pos h]; rfl
theorem stp_z {l : List UInt8} {i : Nat} {cur : List (Int × Int)} {out : List (List (Int × Int))} (h : i < l.length) (hb : byt l i = 122) : stp l ⟨i, true, cur, out⟩ = .inl ⟨skp l (i + 1), false, [], out ++ [cur]⟩ := by
  unfold stp; rw [if_neg (by simp only; omega), if_pos ⟨hb, rfl⟩]
theorem stp_bad {l : List UInt8} {i : Nat} {o : Bool} {cur : List (Int × Int)} {out : List (List (Int × Int))} (h : i < l.length) (hz : o = true → byt l i ≠ 122) (hb : byt l i ≠ if o = true then 76 else 77) : stp l ⟨i, o, cur, out⟩ = .inr (.error (1, i)) := by
  unfold stp; rw [if_neg (by simp only; omega), if_neg (fun hh => hz hh.2 hh.1), if_neg hb]
theorem stp_err {l : List UInt8} {i : Nat} {o : Bool} {cur : List (Int × Int)} {out : List (List (Int × Int))} (h : i < l.length) (hb : byt l i = if o = true then 76 else 77) {e : Int × Nat} (hp : pnt l (i + 1) = .error e) : stp l ⟨i, o, cur, out⟩ = .inr (.error e) := by
  unfold stp
  rw [if_neg (by simp only; omega), if_neg (fun hh => by have h1 := hh.1; have h2 := hh.2; simp only at h1 h2; rw [h2, h1] at hb; simp at hb), if_pos hb]
  simp only [hp]
theorem stp_pt {l : List UInt8} {i : Nat} {o : Bool} {cur : List (Int × Int)} {out : List (List (Int × Int))} (h : i < l.length) (hb : byt l i = if o = true then 76 else 77) {p : Int × Int} {k : Nat} (hp : pnt l (i + 1) = .ok (p, k)) : stp l ⟨i, o, cur, out⟩ = .inl ⟨skp l k, true, cur ++ [p], out⟩ := by
  unfold stp
  rw [if_neg (by simp only; omega), if_neg (fun hh => by have h1 := hh.1; have h2 := hh.2; simp only at h1 h2; rw [h2, h1] at hb; simp at hb), if_pos hb]
  simp only [hp]

/-- What shapes are written as. -/
def ptL (p : Int × Int) : List UInt8 := itoaL p.1.toNat ++ [32] ++ itoaL p.2.toNat
def ptsL : List (Int × Int) → List UInt8
  | [] => []
  | p :: l => [76] ++ ptL p ++ ptsL l
def shP : List (Int × Int) → List UInt8
  | [] => []
  | p :: l => [77] ++ ptL p ++ ptsL l
def shL (l : List (Int × Int)) : List UInt8 := shP l ++ [122]
theorem ptsL_snoc : ∀ (m : List (Int × Int)) (p : Int × Int), ptsL (m ++ [p]) = ptsL m ++ [76] ++ ptL p
  | [], p => by simp [ptsL]
  | q :: m, p => by rw [List.cons_append, ptsL, ptsL_snoc m p, ptsL]; simp
theorem shP_snoc (m : List (Int × Int)) (p : Int × Int) : shP (m ++ [p]) = shP m ++ [if m.length = 0 then 77 else 76] ++ ptL p := by
  cases m with
  | nil => simp [shP, ptsL]
  | cons q m => rw [List.cons_append, shP, ptsL_snoc, shP, if_neg (by simp)]; simp
theorem ptL_len (p : Int × Int) : 3 ≤ (ptL p).length ∧ (ptL p).length ≤ 5 := by
  unfold ptL
  have a := itoaL_len p.1.toNat
  have b := itoaL_len p.2.toNat
  simp only [List.length_append, List.length_singleton]
  omega
theorem ptsL_len (m : List (Int × Int)) : (ptsL m).length ≤ 6 * m.length := by
  induction m with
  | nil => simp [ptsL]
  | cons p m ih => have := ptL_len p; rw [ptsL]; simp only [List.length_append, List.length_nil, List.length_cons]; omega
theorem shP_len (m : List (Int × Int)) : (shP m).length ≤ 6 * m.length := by
  cases m with
  | nil => simp [shP]
  | cons p m => have := ptL_len p; have := ptsL_len m; rw [shP]; simp only [List.length_append, List.length_nil, List.length_cons]; omega
def pathL (L : List (List (Int × Int))) : List UInt8 := L.flatMap shL
theorem pathL_snoc (L : List (List (Int × Int))) (l : List (Int × Int)) : pathL (L ++ [l]) = pathL L ++ shL l := by simp [pathL]
theorem pathL_take (L : List (List (Int × Int))) (k : Nat) : (pathL (L.take k)).length ≤ (pathL L).length := by
  have e : pathL L = pathL (L.take k) ++ pathL (L.drop k) := by unfold pathL; rw [← List.flatMap_append, List.take_append_drop]
  rw [e, List.length_append]; omega
end Go.Proofs.YtljfiefobnncaabDoor.Pm

/- Reading paths: what stands at a place, blanks, coordinates. -/
namespace Go.Proofs.YtljfiefobnncaabDoor
open Go.RowKit

theorem at_some (s : ByteArray) (k : Nat) (h : k < s.size) : s.data.toList[k]? = some s[k] := by
  rw [List.getElem?_eq_getElem (by simpa using h)]; rfl
theorem atY_none (s : ByteArray) (k : Nat) (h : ¬ k < s.size) : s.data.toList[k]? = none := by
  rw [List.getElem?_eq_none (by simpa using h)]
/-- Does c stand at k? -/
def isAtB (l : List UInt8) (k c : Nat) : Bool := match l[k]? with | some b => ((b.toNat : Int) == (c : Int)) | none => false
theorem isAtB_in (s : ByteArray) (k c : Nat) (h : k < s.size) : isAtB s.data.toList k c = ((s[k].toNat : Int) == (c : Int)) := by unfold isAtB; rw [at_some s k h]
theorem isAtB_out (s : ByteArray) (k c : Nat) (h : ¬ k < s.size) : isAtB s.data.toList k c = false := by unfold isAtB; rw [atY_none s k h]

set_option maxRecDepth 4000 in
set_option maxHeartbeats 400000 in
theorem isAt_any (s : ByteArray) (k c : Nat) (hk : k ≤ 140737488355328) (w : World) :
    Calls Tryd.prog 35 #[.string s, .int .i64 k, .int .u8 c] w fun e w' => e = .returned (.bool (isAtB s.data.toList k c)) ∧ w' = w := by
  have k0' : (0 : Int) ≤ (k : Nat) := by omega
  by_cases h : k < s.size
  · have E := hid (isAtB_in s k c h)
    go_enter Tryd.func35, Tryd.ntmps35
    go_wp2
    go_ret
    exact ⟨ret_bool E.out.symm, rfl⟩
  · have E := hid (isAtB_out s k c h)
    have h' : ((s.size : Nat) : Int) ≤ (k : Nat) := by omega
    go_enter Tryd.func35, Tryd.ntmps35
    go_wp2
    go_ret
    exact ⟨ret_bool E.out.symm, rfl⟩
/-- Does a blank stand at k? -/
def blAt (l : List UInt8) (k : Nat) : Bool := isAtB l k 32 || isAtB l k 10
theorem blAt_in (s : ByteArray) (k : Nat) (h : k < s.size) : blAt s.data.toList k = Pm.blB s[k] := by
  unfold blAt; rw [isAtB_in s k 32 h, isAtB_in s k 10 h, Pm.blB_eq]; rfl
theorem blAt_out (s : ByteArray) (k : Nat) (h : ¬ k < s.size) : blAt s.data.toList k = false := by
  unfold blAt; rw [isAtB_out s k 32 h, isAtB_out s k 10 h]; rfl
theorem blAt_blN (s : ByteArray) (k : Nat) : blAt s.data.toList k = decide (Pm.blN (s.data.toList.drop k) ≠ 0) := by
  by_cases h : k < s.size
  · rw [blAt_in s k h, Pm.blN_step s k h]
    cases e : Pm.blB s[k] <;> simp
  · rw [blAt_out s k h, Pm.blN_end s k (by omega)]; rfl
set_option maxRecDepth 4000 in
set_option maxHeartbeats 400000 in
theorem pIsBlank_any (s : ByteArray) (k : Nat) (hk : k ≤ 140737488355328) (w : World) :
    Calls Tryd.prog 34 #[.string s, .int .i64 k] w fun e w' => e = .returned (.bool (blAt s.data.toList k)) ∧ w' = w := by
  have A1 := hid (fun W => isAt_any s k 32 hk W)
  have A2 := hid (fun W => isAt_any s k 10 hk W)
  have E : Hid (blAt s.data.toList k = (isAtB s.data.toList k 32 || isAtB s.data.toList k 10)) := rfl
  obtain ⟨b2, hb2⟩ : ∃ b, b = isAtB s.data.toList k 10 := ⟨_, rfl⟩
  rw [← hb2] at A2 E
  cases h1 : isAtB s.data.toList k 32
  · rw [h1] at A1 E
    clear h1 hb2
    go_enter Tryd.func34, Tryd.ntmps34
    go_wp2_with fail
    refine (A1.out _).mono ?_
    rintro e w1 ⟨rfl, rfl⟩
    go_wp2_with fail
    refine (A2.out _).mono ?_
    rintro e w2 ⟨rfl, rfl⟩
    go_wp2
    go_ret
    exact ⟨ret_bool (by rw [E.out]; rfl), rfl⟩
  · rw [h1] at A1 E
    clear h1 hb2
    go_enter Tryd.func34, Tryd.ntmps34
    go_wp2_with fail
    refine (A1.out _).mono ?_
    rintro e w1 ⟨rfl, rfl⟩
    go_wp2
    go_ret
    exact ⟨ret_bool (by rw [E.out]; rfl), rfl⟩

set_option maxRecDepth 4000 in
set_option maxHeartbeats 400000 in
theorem pSkip_any (s : ByteArray) (a : Nat) (ha : a ≤ s.size) (hs : s.size ≤ 140737488355328) (w : World) :
    Calls Tryd.prog 25 #[.string s, .int .i64 a] w fun e w' => e = .returned (.int .i64 (Pm.skp s.data.toList a : Nat)) ∧ w' = w := by
  go_enter Tryd.func25, Tryd.ntmps25
  go_wp2_with fail
  go_loop [1] (fun i => ∃ k : Nat, k ≤ s.size ∧ i = .int .i64 k ∧ Hid (Pm.skp s.data.toList a = k + Pm.blN (s.data.toList.drop k))) (fun i => s.size - (intOf i).toNat)
  case atStart => exact ⟨a, ha, rfl, rfl⟩
  case round =>
    obtain ⟨k, hk, rfl, E⟩ := hrel
    have C := hid (fun W => pIsBlank_any s k (by omega) W)
    by_cases hlt : k < s.size
    · have B := hid (blAt_in s k hlt)
      have S := hid (Pm.blN_step s k hlt)
      cases hb : Pm.blB s[k]
      · have F := hid (show Pm.skp s.data.toList a = k by rw [E.out, S.out, hb]; rfl)
        rw [B.out, hb] at C
        clear hb S B
        go_wp2_with fail
        refine (C.out _).mono ?_
        rintro e w1 ⟨rfl, rfl⟩
        go_wp2
        go_ret
        exact ⟨ret_int (by rw [F.out]), rfl⟩
      · have F := hid (show Pm.skp s.data.toList a = k + 1 + Pm.blN (s.data.toList.drop (k + 1)) by rw [E.out, S.out, hb, if_pos rfl]; omega)
        rw [B.out, hb] at C
        clear hb S B
        go_wp2_with fail
        refine (C.out _).mono ?_
        rintro e w1 ⟨rfl, rfl⟩
        go_wp2
        go_round
        case rel => exact ⟨k + 1, by omega, by go_num, F⟩
        case measure => simp [intOf]; omega
    · have B := hid (blAt_out s k hlt)
      have F := hid (show Pm.skp s.data.toList a = k by rw [E.out, Pm.blN_end s k (by omega)]; rfl)
      rw [B.out] at C
      clear B
      go_wp2_with fail
      refine (C.out _).mono ?_
      rintro e w1 ⟨rfl, rfl⟩
      go_wp2
      go_ret
      exact ⟨ret_int (by rw [F.out]), rfl⟩



end Go.Proofs.YtljfiefobnncaabDoor

/- Reading paths: coordinates and points. -/
namespace Go.Proofs.YtljfiefobnncaabDoor
open Go.RowKit

/-- What readNumber gives. -/
def rn3 : Except (Int × Nat) (Nat × Nat) → Nat × Nat × Int
  | .ok (n, k) => (n, k, 0)
  | .error (e, p) => (0, p, e)
set_option maxRecDepth 4000 in
set_option maxHeartbeats 1000000 in
theorem pReadNumber_any (s : ByteArray) (i : Nat) (hi : i ≤ s.size) (hs : s.size ≤ 140737488355328) (w : World) :
    Calls Tryd.prog 42 #[.string s, .int .i64 i] w fun e w' => e = .returned (.tuple #[.int .i64 (rn3 (Pm.crd s.data.toList i)).1, .int .i64 (rn3 (Pm.crd s.data.toList i)).2.1, .int .i64 (rn3 (Pm.crd s.data.toList i)).2.2]) ∧ w' = w := by
  have SK := hid (fun W => pSkip_any s i hi hs W)
  have kl := Pm.skp_le (l := s.data.toList) (i := i) (by simpa using hi)
  have CR : Hid (Pm.crd s.data.toList i = if Pm.numC (s.data.toList.drop (Pm.skp s.data.toList i)) = 0 then .error (Pm.lackE s.data.toList.length (Pm.skp s.data.toList i), Pm.skp s.data.toList i) else if 32 < Pm.numV 0 (s.data.toList.drop (Pm.skp s.data.toList i)) then .error (3, Pm.skp s.data.toList i) else .ok (Pm.numV 0 (s.data.toList.drop (Pm.skp s.data.toList i)), Pm.skp s.data.toList i + Pm.numC (s.data.toList.drop (Pm.skp s.data.toList i)))) := rfl
  have ls : s.data.toList.length = s.size := by simp
  rw [ls] at CR kl
  clear ls
  obtain ⟨k, hk⟩ : ∃ k, k = Pm.skp s.data.toList i := ⟨_, rfl⟩
  rw [← hk] at SK kl CR
  clear hk
  have SN := hid (fun W => scanNumber_any s k kl hs W)
  have WR := hid (fun W => wrongAt_any s k W)
  have vb := Pm.numV_le (s.data.toList.drop k) 0 (by omega)
  obtain ⟨n, hn⟩ : ∃ n, n = Pm.numV 0 (s.data.toList.drop k) := ⟨_, rfl⟩
  obtain ⟨m, hm⟩ : ∃ m, m = Pm.numC (s.data.toList.drop k) := ⟨_, rfl⟩
  rw [← hn] at SN CR vb
  rw [← hm] at SN CR
  clear hn hm
  obtain ⟨E, hE⟩ : ∃ E, E = Pm.lackE s.size k := ⟨_, rfl⟩
  rw [← hE] at WR CR
  clear hE
  obtain ⟨c, hc⟩ : ∃ c, c = Pm.crd s.data.toList i := ⟨_, rfl⟩
  rw [← hc] at CR ⊢
  clear hc
  by_cases m0 : m = 0
  · have C2 := hid (show rn3 c = (0, k, E) by rw [CR.out, if_pos m0]; rfl)
    have b0 : (((k + m : Nat) : Int) == (k : Int)) = true := beq_iff_eq.2 (by omega)
    rw [C2.out]
    clear m0
    go_enter Tryd.func42, Tryd.ntmps42
    go_wp2_with (first | (go_at_call 25; refine (SK.out _).mono ?_; rintro e w' ⟨rfl, rfl⟩) | (go_at_call 50; refine (SN.out _).mono ?_; rintro e w' ⟨rfl, rfl⟩) | (go_at_call 37; refine (WR.out _).mono ?_; rintro e w' ⟨rfl, rfl⟩))
    go_ret3
    exact ⟨rfl, rfl⟩
  · have b0 : (((k + m : Nat) : Int) == (k : Int)) = false := beq_eq_false_iff_ne.2 (by omega)
    by_cases n1 : 32 < n
    · have C2 := hid (show rn3 c = (0, k, 3) by rw [CR.out, if_neg m0, if_pos n1]; rfl)
      rw [C2.out]
      clear m0
      go_enter Tryd.func42, Tryd.ntmps42
      go_wp2_with (first | (go_at_call 25; refine (SK.out _).mono ?_; rintro e w' ⟨rfl, rfl⟩) | (go_at_call 50; refine (SN.out _).mono ?_; rintro e w' ⟨rfl, rfl⟩) | fail)
      go_ret3
      exact ⟨rfl, rfl⟩
    · have C2 := hid (show rn3 c = (n, k + m, 0) by rw [CR.out, if_neg m0, if_neg n1]; rfl)
      rw [C2.out]
      clear m0
      go_enter Tryd.func42, Tryd.ntmps42
      go_wp2_with (first | (go_at_call 25; refine (SK.out _).mono ?_; rintro e w' ⟨rfl, rfl⟩) | (go_at_call 50; refine (SN.out _).mono ?_; rintro e w' ⟨rfl, rfl⟩) | fail)
      go_ret3
      exact ⟨rfl, rfl⟩



end Go.Proofs.YtljfiefobnncaabDoor

/- Reading paths: points. -/
namespace Go.Proofs.YtljfiefobnncaabDoor
open Go.RowKit

/-- What readPoint gives. -/
def pt3 : Except (Int × Nat) ((Int × Int) × Nat) → (Int × Int) × Nat × Int
  | .ok (p, k) => (p, k, 0)
  | .error (e, p) => ((0, 0), p, e)
theorem err_ne {e : Int} (h : e = 1 ∨ e = 2 ∨ e = 3) : (e == 0) = false := by rcases h with rfl | rfl | rfl <;> rfl
theorem lackE_in (n a : Nat) : Pm.lackE n a = 1 ∨ Pm.lackE n a = 2 ∨ Pm.lackE n a = 3 := by unfold Pm.lackE; split <;> omega
theorem two_on {w w' : World} {a b : Value} {t : TypeId} (hb : Below (w.alloc (.cells #[a, b] t)).heap.size (w.alloc (.cells #[a, b] t)) w') :
    w'.cell? ⟨w.heap.size, 0, none⟩ = some a ∧ w'.cell? ⟨w.heap.size, 1, none⟩ = some b ∧ w'.frozen? ⟨w.heap.size, 0, none⟩ = false ∧ w'.frozen? ⟨w.heap.size, 1, none⟩ = false ∧ w.heap.size < w'.heap.size := by
  have z : w.heap.size < (w.alloc (.cells #[a, b] t)).heap.size := by simp
  exact ⟨(hb.cell (p := ⟨w.heap.size, 0, none⟩) z).trans (by simp), (hb.cell (p := ⟨w.heap.size, 1, none⟩) z).trans (by simp), (hb.frozen (p := ⟨w.heap.size, 0, none⟩) z).trans (by simp), (hb.frozen (p := ⟨w.heap.size, 1, none⟩) z).trans (by simp), Nat.lt_of_lt_of_le z hb.size⟩

set_option maxRecDepth 4000 in
set_option maxHeartbeats 1000000 in
theorem pReadPoint_any (s : ByteArray) (i : Nat) (hi : i ≤ s.size) (hs : s.size ≤ 140737488355328) (w : World) :
    Calls Tryd.prog 36 #[.string s, .int .i64 i] w fun e w' => e = .returned (.tuple #[.agg #[.int .i64 (pt3 (Pm.pnt s.data.toList i)).1.1, .int .i64 (pt3 (Pm.pnt s.data.toList i)).1.2], .int .i64 (pt3 (Pm.pnt s.data.toList i)).2.1, .int .i64 (pt3 (Pm.pnt s.data.toList i)).2.2]) ∧ Below w.heap.size w w' := by
  have ls : s.data.toList.length = s.size := by simp
  have R1 := hid (fun W => pReadNumber_any s i hi hs W)
  have PE : Hid (Pm.pnt s.data.toList i = match Pm.crd s.data.toList i with
    | .error e => .error e
    | .ok (x, k) => if Pm.blN (s.data.toList.drop k) = 0 then .error (Pm.lackE s.data.toList.length k, k) else
      match Pm.crd s.data.toList k with
      | .error e => .error e
      | .ok (y, m) => .ok (((x : Int), (y : Int)), m)) := rfl
  obtain ⟨P, hP⟩ : ∃ P, P = Pm.pnt s.data.toList i := ⟨_, rfl⟩
  rw [← hP] at PE ⊢
  clear hP
  match h1 : Pm.crd s.data.toList i with
  | .error (e, p) =>
    have e0 := err_ne (Pm.crd_err (by omega) h1).1
    have C2 := hid (show pt3 P = ((0, 0), p, e) by rw [PE.out, h1]; rfl)
    rw [h1] at R1
    rw [C2.out]
    simp only [rn3] at R1
    clear h1 ls
    go_enter Tryd.func36, Tryd.ntmps36
    go_wp2_with (first | (go_at_call 42; refine (R1.out _).mono ?_; rintro e w' ⟨rfl, rfl⟩))
    refine bodyPost_ret (v := .tuple #[.agg #[.int .i64 0, .int .i64 0], .int .i64 p, .int .i64 e]) (by simp [results, Tryd.results36, go_sem]) rfl ?_
    exact ⟨rfl, by go_grown⟩
  | .ok (x, k) =>
    have ck := Pm.crd_ok (by omega) h1
    have hk : k ≤ s.size := by omega
    have BL := hid (fun W => pIsBlank_any s k (by omega) W)
    have WR := hid (fun W => wrongAt_any s k W)
    have R2 := hid (fun W => pReadNumber_any s k hk hs W)
    have BN := hid (blAt_blN s k)
    rw [h1] at R1
    simp only [rn3] at R1
    by_cases hb : Pm.blN (s.data.toList.drop k) = 0
    · have C2 := hid (show pt3 P = ((0, 0), k, Pm.lackE s.size k) by rw [PE.out, h1]; simp only [hb, if_true, ls]; rfl)
      rw [BN.out, hb] at BL
      rw [C2.out]
      have BL2 := hid (show ∀ W, Calls Tryd.prog 34 #[.string s, .int .i64 k] W fun e w' => e = .returned (.bool false) ∧ w' = W from fun W => by simpa using BL.out W)
      obtain ⟨E, hE⟩ : ∃ E, E = Pm.lackE s.size k := ⟨_, rfl⟩
      rw [← hE] at WR ⊢
      clear h1 ls hb BL hE C2 BN PE
      go_enter Tryd.func36, Tryd.ntmps36
      go_wp2_with (first | (go_at_call 42; refine (R1.out _).mono ?_; rintro e w' ⟨rfl, rfl⟩) | (go_at_call 34; refine (BL2.out _).mono ?_; rintro e w' ⟨rfl, rfl⟩) | (go_at_call 37; refine (WR.out _).mono ?_; rintro e w' ⟨rfl, rfl⟩))
      refine bodyPost_ret (v := .tuple #[.agg #[.int .i64 0, .int .i64 0], .int .i64 k, .int .i64 E]) (by simp [results, Tryd.results36, go_sem]) rfl ?_
      exact ⟨rfl, by go_grown⟩
    · have BL2 := hid (show ∀ W, Calls Tryd.prog 34 #[.string s, .int .i64 k] W fun e w' => e = .returned (.bool true) ∧ w' = W from fun W => by
        have := BL.out W; rw [BN.out] at this; simpa [hb] using this)
      match h2 : Pm.crd s.data.toList k with
      | .error (e, p) =>
        have e0 := err_ne (Pm.crd_err (by omega) h2).1
        have C2 := hid (show pt3 P = ((0, 0), p, e) by rw [PE.out, h1]; simp only [hb, if_false, h2]; rfl)
        rw [h2] at R2
        rw [C2.out]
        simp only [rn3] at R2
        clear h1 ls hb BL C2 BN PE h2
        go_enter Tryd.func36, Tryd.ntmps36
        go_wp2_with fail
        refine (R1.out _).mono ?_
        rintro e w' ⟨rfl, rfl⟩
        go_wp2_with fail
        refine (BL2.out _).mono ?_
        rintro e w' ⟨rfl, rfl⟩
        go_wp2_with fail
        refine (R2.out _).mono ?_
        rintro e w' ⟨rfl, rfl⟩
        go_wp2
        refine bodyPost_ret (v := .tuple #[.agg #[.int .i64 0, .int .i64 0], .int .i64 p, .int .i64 e]) (by simp [results, Tryd.results36, go_sem]) rfl ?_
        exact ⟨rfl, by go_grown⟩
      | .ok (y, m) =>
        have C2 := hid (show pt3 P = (((x : Int), (y : Int)), m, 0) by rw [PE.out, h1]; simp only [hb, if_false, h2]; rfl)
        rw [h2] at R2
        rw [C2.out]
        simp only [rn3] at R2
        clear h1 ls hb BL C2 BN PE h2
        go_enter Tryd.func36, Tryd.ntmps36
        go_wp2_with fail
        refine (R1.out _).mono ?_
        rintro e w' ⟨rfl, rfl⟩
        go_wp2_with fail
        refine (BL2.out _).mono ?_
        rintro e w' ⟨rfl, rfl⟩
        go_wp2_with fail
        refine (R2.out _).mono ?_
        rintro e w' ⟨rfl, rfl⟩
        go_wp2
        refine bodyPost_ret (v := .tuple #[.agg #[.int .i64 x, .int .i64 y], .int .i64 m, .int .i64 0]) (by simp [results, Tryd.results36, go_sem]) rfl ?_
        exact ⟨rfl, by go_grown⟩



end Go.Proofs.YtljfiefobnncaabDoor
