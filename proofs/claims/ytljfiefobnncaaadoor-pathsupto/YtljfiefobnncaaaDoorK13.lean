/- Plain facts on reading: gaps, numbers, pixels. Nothing of the program stands here. -/
import Derived.Test.YtljfiefobnncaaaDoorK03
namespace Go.Proofs.YtljfiefobnncaaaDoor.Pm

def blankB (c : UInt8) : Bool := c == 32 || c == 10 || c == 9 || c == 13
def digitB (c : UInt8) : Bool := decide (48 ≤ c.toNat ∧ c.toNat ≤ 57)
theorem blankB_eq (c : UInt8) : blankB c = ((c.toNat : Int) == 32 || (c.toNat : Int) == 10 || (c.toNat : Int) == 9 || (c.toNat : Int) == 13) := by
  have e : ∀ k : UInt8, (c == k) = ((c.toNat : Int) == (k.toNat : Int)) := by
    intro k
    rw [Bool.eq_iff_iff]
    simp only [beq_iff_eq]
    constructor
    · intro h; rw [h]
    · intro h; exact UInt8.toNat_inj.1 (by omega)
  rw [blankB, e, e, e, e]; rfl
theorem digitB_eq (c : UInt8) : digitB c = (decide ((48 : Int) ≤ c.toNat) && decide ((c.toNat : Int) ≤ 57)) := by
  rw [Bool.eq_iff_iff]; simp only [digitB, decide_eq_true_eq, Bool.and_eq_true]; omega
theorem drop_at (s : ByteArray) (k : Nat) (hk : k < s.size) : s.data.toList.drop k = s[k] :: s.data.toList.drop (k + 1) := by
  rw [List.drop_eq_getElem_cons (by simpa using hk)]; rfl
theorem drop_end (s : ByteArray) (k : Nat) (hk : s.size ≤ k) : s.data.toList.drop k = [] := List.drop_of_length_le (by simpa using hk)

/-- How many bytes a gap takes; c: within a comment. -/
def skipG : List UInt8 → Bool → Nat
  | [], _ => 0
  | x :: r, c => if (c || (x.toNat : Int) == 35 || blankB x) = true then 1 + skipG r (!((x.toNat : Int) == 10) && ((x.toNat : Int) == 35 || c)) else 0
theorem skip_step (s : ByteArray) (k : Nat) (hk : k < s.size) (c : Bool) : skipG (s.data.toList.drop k) c = if (c || (s[k].toNat : Int) == 35 || blankB s[k]) = true then 1 + skipG (s.data.toList.drop (k + 1)) (!((s[k].toNat : Int) == 10) && ((s[k].toNat : Int) == 35 || c)) else 0 := by
  rw [drop_at s k hk, skipG]
theorem skip_end (s : ByteArray) (k : Nat) (hk : s.size ≤ k) (c : Bool) : skipG (s.data.toList.drop k) c = 0 := by
  rw [drop_end s k hk, skipG]
theorem skipG_le : ∀ (l : List UInt8) (c : Bool), skipG l c ≤ l.length
  | [], _ => Nat.le_refl _
  | x :: r, c => by
    rw [skipG]
    have := skipG_le r (!((x.toNat : Int) == 10) && ((x.toNat : Int) == 35 || c))
    simp only [List.length_cons]
    split <;> omega
theorem skip_in (s : ByteArray) (k : Nat) (hk : k < s.size) (h : ((s[k].toNat : Int) == 10) = false) : skipG (s.data.toList.drop k) true = 1 + skipG (s.data.toList.drop (k + 1)) true := by
  rw [skip_step s k hk, if_pos (by simp), h]; simp
theorem skip_nl (s : ByteArray) (k : Nat) (hk : k < s.size) (h : ((s[k].toNat : Int) == 10) = true) : skipG (s.data.toList.drop k) true = 1 + skipG (s.data.toList.drop (k + 1)) false := by
  rw [skip_step s k hk, if_pos (by simp), h]; simp
theorem skip_hash (s : ByteArray) (k : Nat) (hk : k < s.size) (h : ((s[k].toNat : Int) == 35) = true) (c : Bool) : skipG (s.data.toList.drop k) c = 1 + skipG (s.data.toList.drop (k + 1)) true := by
  have q10 : ((s[k].toNat : Int) == 10) = false := by have := eq_of_beq h; rw [this]; rfl
  rw [skip_step s k hk, if_pos (by simp [h]), h, q10]; simp
theorem skip_blank (s : ByteArray) (k : Nat) (hk : k < s.size) (h : ((s[k].toNat : Int) == 35) = false) (hb : blankB s[k] = true) : skipG (s.data.toList.drop k) false = 1 + skipG (s.data.toList.drop (k + 1)) false := by
  rw [skip_step s k hk, if_pos (by simp [hb]), h]; simp
theorem skip_not (s : ByteArray) (k : Nat) (hk : k < s.size) (h : ((s[k].toNat : Int) == 35) = false) (hb : blankB s[k] = false) : skipG (s.data.toList.drop k) false = 0 := by
  rw [skip_step s k hk, if_neg (by simp [hb, h])]
/-- Where the gap from a on ends. -/
def gapEnd (l : List UInt8) (a : Nat) : Nat := a + skipG (l.drop a) false
theorem gapEnd_le (l : List UInt8) (a : Nat) (h : a ≤ l.length) : gapEnd l a ≤ l.length := by
  have := skipG_le (l.drop a) false
  rw [List.length_drop] at this
  rw [gapEnd]; omega
theorem gapEnd_ge (l : List UInt8) (a : Nat) : a ≤ gapEnd l a := by rw [gapEnd]; omega

/-- How many blanks stand ahead. -/
def blanks : List UInt8 → Nat
  | [] => 0
  | x :: r => if blankB x = true then 1 + blanks r else 0
theorem blanks_step (s : ByteArray) (k : Nat) (hk : k < s.size) : blanks (s.data.toList.drop k) = if blankB s[k] = true then 1 + blanks (s.data.toList.drop (k + 1)) else 0 := by
  rw [drop_at s k hk, blanks]
theorem blanks_end (s : ByteArray) (k : Nat) (hk : s.size ≤ k) : blanks (s.data.toList.drop k) = 0 := by rw [drop_end s k hk, blanks]
theorem blanks_le : ∀ (l : List UInt8), blanks l ≤ l.length
  | [] => Nat.le_refl _
  | x :: r => by
    rw [blanks]
    have := blanks_le r
    simp only [List.length_cons]
    split <;> omega

/-- What is wrong at a place where nothing that stands there may stand. -/
def lackE (n a : Nat) : Int := if n ≤ a then 2 else 1
theorem lackE_short {n a : Nat} (h : n ≤ a) : lackE n a = 2 := if_pos h
theorem lackE_syntax {n a : Nat} (h : ¬ n ≤ a) : lackE n a = 1 := if_neg h

/-- A number, held at 33 at most; n: what is read so far. -/
def numV : Nat → List UInt8 → Nat
  | n, [] => n
  | n, x :: r => if digitB x = true then numV (min (10 * n + (x.toNat - 48)) 33) r else n
def numC : List UInt8 → Nat
  | [] => 0
  | x :: r => if digitB x = true then 1 + numC r else 0
theorem numV_step (s : ByteArray) (k : Nat) (hk : k < s.size) (n : Nat) : numV n (s.data.toList.drop k) = if digitB s[k] = true then numV (min (10 * n + (s[k].toNat - 48)) 33) (s.data.toList.drop (k + 1)) else n := by
  rw [drop_at s k hk, numV]
theorem numC_step (s : ByteArray) (k : Nat) (hk : k < s.size) : numC (s.data.toList.drop k) = if digitB s[k] = true then 1 + numC (s.data.toList.drop (k + 1)) else 0 := by
  rw [drop_at s k hk, numC]
theorem numV_end (s : ByteArray) (k : Nat) (hk : s.size ≤ k) (n : Nat) : numV n (s.data.toList.drop k) = n := by rw [drop_end s k hk, numV]
theorem numC_end (s : ByteArray) (k : Nat) (hk : s.size ≤ k) : numC (s.data.toList.drop k) = 0 := by rw [drop_end s k hk, numC]
theorem numV_le : ∀ (l : List UInt8) (n : Nat), n ≤ 33 → numV n l ≤ 33
  | [], n, h => h
  | x :: r, n, h => by
    rw [numV]
    split
    · exact numV_le r _ (Nat.min_le_right _ _)
    · exact h
theorem numC_le : ∀ (l : List UInt8), numC l ≤ l.length
  | [] => Nat.le_refl _
  | x :: r => by
    rw [numC]
    have := numC_le r
    simp only [List.length_cons]
    split <;> omega
/-- What a number at g gives: the number, where it ends or what is wrong stands, the error. -/
def numOut (l : List UInt8) (g n p : Nat) (e : Int) : Prop :=
  (numC (l.drop g) = 0 ∧ n = 0 ∧ p = g ∧ e = lackE l.length g) ∨
  (0 < numC (l.drop g) ∧ (numV 0 (l.drop g) = 0 ∨ 32 < numV 0 (l.drop g)) ∧ n = 0 ∧ p = g ∧ e = 3) ∨
  (0 < numC (l.drop g) ∧ 1 ≤ numV 0 (l.drop g) ∧ numV 0 (l.drop g) ≤ 32 ∧ n = numV 0 (l.drop g) ∧ p = g + numC (l.drop g) ∧ e = 0)
/-- What a gap and a number give. -/
def sideOut (l : List UInt8) (a n p : Nat) (e : Int) : Prop :=
  (gapEnd l a = a ∧ n = 0 ∧ p = a ∧ e = lackE l.length a) ∨ (a < gapEnd l a ∧ numOut l (gapEnd l a) n p e)
theorem numV_on (s : ByteArray) (k : Nat) (hk : k < s.size) (n m : Nat) (hd : digitB s[k] = true) (hm : m = min (10 * n + (s[k].toNat - 48)) 33) : numV n (s.data.toList.drop k) = numV m (s.data.toList.drop (k + 1)) := by
  rw [numV_step s k hk, if_pos hd, hm]
theorem digit_bounds {c : UInt8} (h : digitB c = true) : (48 : Int) ≤ c.toNat ∧ (c.toNat : Int) ≤ 57 := by
  have := of_decide_eq_true h; omega
end Go.Proofs.YtljfiefobnncaaaDoor.Pm
