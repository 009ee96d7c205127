import Derived.Test.YtljfiefobnncaabGreatDoorK01

/- Plain facts on reading: gaps, numbers, pixels. Nothing of the program stands here. -/
namespace Go.Proofs.YtljfiefobnncaabGreatDoor.Pm

def blankB (c : UInt8) : Bool := c == 32 || c == 10 || c == 9 || c == 13
def digitB (c : UInt8) : Bool := decide (48 ≤ c.toNat ∧ c.toNat ≤ 57)
theorem blankB_eq (c : UInt8) : blankB c = ((c.toNat : Int) == 32 || (c.toNat : Int) == 10 || (c.toNat : Int) == 9 || (c.toNat : Int) == 13) := by
  have e : ∀ k : UInt8, (c == k) = ((c.toNat : Int) == (k.toNat : Int)) := by
    intro k
    rw [Bool.eq_iff_iff]
    simp only [beq_iff_eq]
    constructor
    · intro h; rw [h]
    · intro h; exact UInt8.toNat_inj.1 (by omega)
  rw [blankB, e, e, e, e]; rfl
theorem digitB_eq (c : UInt8) : digitB c = (decide ((48 : Int) ≤ c.toNat) && decide ((c.toNat : Int) ≤ 57)) := by
  rw [Bool.eq_iff_iff]; simp only [digitB, decide_eq_true_eq, Bool.and_eq_true]; omega
theorem drop_at (s : ByteArray) (k : Nat) (hk : k < s.size) : s.data.toList.drop k = s[k] :: s.data.toList.drop (k + 1) := by
  rw [List.drop_eq_getElem_cons (by simpa using hk)]; rfl
theorem drop_end (s : ByteArray) (k : Nat) (hk : s.size ≤ k) : s.data.toList.drop k = [] := List.drop_of_length_le (by simpa using hk)

/-- How many bytes a gap takes; c: within a comment. -/
def skipG : List UInt8 → Bool → Nat
  | [], _ => 0
  | x :: r, c => if (c || (x.toNat : Int) == 35 || blankB x) = true then 1 + skipG r (!((x.toNat : Int) == 10) && ((x.toNat : Int) == 35 || c)) else 0
theorem skip_step (s : ByteArray) (k : Nat) (hk : k < s.size) (c : Bool) : skipG (s.data.toList.drop k) c = if (c || (s[k].toNat : Int) == 35 || blankB s[k]) = true then 1 + skipG (s.data.toList.drop (k + 1)) (!((s[k].toNat : Int) == 10) && ((s[k].toNat : Int) == 35 || c)) else 0 := by
  rw [drop_at s k hk, skipG]
theorem skip_end (s : ByteArray) (k : Nat) (hk : s.size ≤ k) (c : Bool) : skipG (s.data.toList.drop k) c = 0 := by
  rw [drop_end s k hk, skipG]
theorem skipG_le : ∀ (l : List UInt8) (c : Bool), skipG l c ≤ l.length
  | [], _ => Nat.le_refl _
  | x :: r, c => by
    rw [skipG]
    have := skipG_le r (!((x.toNat : Int) == 10) && ((x.toNat : Int) == 35 || c))
    simp only [List.length_cons]
    split <;> omega
theorem skip_in (s : ByteArray) (k : Nat) (hk : k < s.size) (h : ((s[k].toNat : Int) == 10) = false) : skipG (s.data.toList.drop k) true = 1 + skipG (s.data.toList.drop (k + 1)) true := by
  rw [skip_step s k hk, if_pos (by simp), h]; simp
theorem skip_nl (s : ByteArray) (k : Nat) (hk : k < s.size) (h : ((s[k].toNat : Int) == 10) = true) : skipG (s.data.toList.drop k) true = 1 + skipG (s.data.toList.drop (k + 1)) false := by
  rw [skip_step s k hk, if_pos (by simp), h]; simp
theorem skip_hash (s : ByteArray) (k : Nat) (hk : k < s.size) (h : ((s[k].toNat : Int) == 35) = true) (c : Bool) : skipG (s.data.toList.drop k) c = 1 + skipG (s.data.toList.drop (k + 1)) true := by
  have q10 : ((s[k].toNat : Int) == 10) = false := by have := eq_of_beq h; rw [this]; rfl
  rw [skip_step s k hk, if_pos (by simp [h]), h, q10]; simp
theorem skip_blank (s : ByteArray) (k : Nat) (hk : k < s.size) (h : ((s[k].toNat : Int) == 35) = false) (hb : blankB s[k] = true) : skipG (s.data.toList.drop k) false = 1 + skipG (s.data.toList.drop (k + 1)) false := by
  rw [skip_step s k hk, if_pos (by simp [hb]), h]; simp
theorem skip_not (s : ByteArray) (k : Nat) (hk : k < s.size) (h : ((s[k].toNat : Int) == 35) = false) (hb : blankB s[k] = false) : skipG (s.data.toList.drop k) false = 0 := by
  rw [skip_step s k hk, if_neg (by simp [hb, h])]
/-- Where the gap from a on ends. -/
def gapEnd (l : List UInt8) (a : Nat) : Nat := a + skipG (l.drop a) false
theorem gapEnd_le (l : List UInt8) (a : Nat) (h : a ≤ l.length) : gapEnd l a ≤ l.length := by
  have := skipG_le (l.drop a) false
  rw [List.length_drop] at this
  rw [gapEnd]; omega
theorem gapEnd_ge (l : List UInt8) (a : Nat) : a ≤ gapEnd l a := by rw [gapEnd]; omega

/-- How many blanks stand ahead. -/
def blanks : List UInt8 → Nat
  | [] => 0
  | x :: r => if blankB x = true then 1 + blanks r else 0
theorem blanks_step (s : ByteArray) (k : Nat) (hk : k < s.size) : blanks (s.data.toList.drop k) = if blankB s[k] = true then 1 + blanks (s.data.toList.drop (k + 1)) else 0 := by
  rw [drop_at s k hk, blanks]
theorem blanks_end (s : ByteArray) (k : Nat) (hk : s.size ≤ k) : blanks (s.data.toList.drop k) = 0 := by rw [drop_end s k hk, blanks]
theorem blanks_le : ∀ (l : List UInt8), blanks l ≤ l.length
  | [] => Nat.le_refl _
  | x :: r => by
    rw [blanks]
    have := blanks_le r
    simp only [List.length_cons]
    split <;> omega

/-- What is wrong at a place where nothing that stands there may stand. -/
def lackE (n a : Nat) : Int := if n ≤ a then 2 else 1
theorem lackE_short {n a : Nat} (h : n ≤ a) : lackE n a = 2 := if_pos h
theorem lackE_syntax {n a : Nat} (h : ¬ n ≤ a) : lackE n a = 1 := if_neg h

/-- A number, held at 33 at most; n: what is read so far. -/
def numV : Nat → List UInt8 → Nat
  | n, [] => n
  | n, x :: r => if digitB x = true then numV (min (10 * n + (x.toNat - 48)) 33) r else n
def numC : List UInt8 → Nat
  | [] => 0
  | x :: r => if digitB x = true then 1 + numC r else 0
theorem numV_step (s : ByteArray) (k : Nat) (hk : k < s.size) (n : Nat) : numV n (s.data.toList.drop k) = if digitB s[k] = true then numV (min (10 * n + (s[k].toNat - 48)) 33) (s.data.toList.drop (k + 1)) else n := by
  rw [drop_at s k hk, numV]
theorem numC_step (s : ByteArray) (k : Nat) (hk : k < s.size) : numC (s.data.toList.drop k) = if digitB s[k] = true then 1 + numC (s.data.toList.drop (k + 1)) else 0 := by
  rw [drop_at s k hk, numC]
theorem numV_end (s : ByteArray) (k : Nat) (hk : s.size ≤ k) (n : Nat) : numV n (s.data.toList.drop k) = n := by rw [drop_end s k hk, numV]
theorem numC_end (s : ByteArray) (k : Nat) (hk : s.size ≤ k) : numC (s.data.toList.drop k) = 0 := by rw [drop_end s k hk, numC]
theorem numV_le : ∀ (l : List UInt8) (n : Nat), n ≤ 33 → numV n l ≤ 33
  | [], n, h => h
  | x :: r, n, h => by
    rw [numV]
    split
    · exact numV_le r _ (Nat.min_le_right _ _)
    · exact h
theorem numC_le : ∀ (l : List UInt8), numC l ≤ l.length
  | [] => Nat.le_refl _
  | x :: r => by
    rw [numC]
    have := numC_le r
    simp only [List.length_cons]
    split <;> omega
/-- What a number at g gives: the number, where it ends or what is wrong stands, the error. -/
def numOut (l : List UInt8) (g n p : Nat) (e : Int) : Prop :=
  (numC (l.drop g) = 0 ∧ n = 0 ∧ p = g ∧ e = lackE l.length g) ∨
  (0 < numC (l.drop g) ∧ (numV 0 (l.drop g) = 0 ∨ 32 < numV 0 (l.drop g)) ∧ n = 0 ∧ p = g ∧ e = 3) ∨
  (0 < numC (l.drop g) ∧ 1 ≤ numV 0 (l.drop g) ∧ numV 0 (l.drop g) ≤ 32 ∧ n = numV 0 (l.drop g) ∧ p = g + numC (l.drop g) ∧ e = 0)
/-- What a gap and a number give. -/
def sideOut (l : List UInt8) (a n p : Nat) (e : Int) : Prop :=
  (gapEnd l a = a ∧ n = 0 ∧ p = a ∧ e = lackE l.length a) ∨ (a < gapEnd l a ∧ numOut l (gapEnd l a) n p e)
theorem numV_on (s : ByteArray) (k : Nat) (hk : k < s.size) (n m : Nat) (hd : digitB s[k] = true) (hm : m = min (10 * n + (s[k].toNat - 48)) 33) : numV n (s.data.toList.drop k) = numV m (s.data.toList.drop (k + 1)) := by
  rw [numV_step s k hk, if_pos hd, hm]
theorem digit_bounds {c : UInt8} (h : digitB c = true) : (48 : Int) ≤ c.toNat ∧ (c.toNat : Int) ≤ 57 := by
  have := of_decide_eq_true h; omega
end Go.Proofs.YtljfiefobnncaabGreatDoor.Pm

/- Walks of the small functions under Read. -/
namespace Go.Proofs.YtljfiefobnncaabGreatDoor
open Go.RowKit

theorem hidr {p : Prop} (h : p) : Hid p := h

set_option maxRecDepth 4000 in
set_option maxHeartbeats 400000 in
theorem isBlank_any (c : UInt8) (w : World) :
    Calls Tryz.prog 114 #[.int .u8 c.toNat] w fun e w' => e = .returned (.bool (Pm.blankB c)) ∧ w' = w := by
  have E := hidr (Pm.blankB_eq c)
  cases q1 : ((c.toNat : Int) == 32) <;> cases q2 : ((c.toNat : Int) == 10) <;> cases q3 : ((c.toNat : Int) == 9)
  all_goals
    go_enter Tryz.func114, Tryz.ntmps114
    go_wp2
    go_ret
    exact ⟨ret_bool (by rw [E.out, q1, q2, q3]; rfl), rfl⟩

set_option maxRecDepth 4000 in
set_option maxHeartbeats 400000 in
theorem blank_any (c : UInt8) (w : World) :
    Calls Tryz.prog 64 #[.int .u8 c.toNat] w fun e w' => e = .returned (.bool (Pm.blankB c)) ∧ w' = w := by
  have E := hidr (Pm.blankB_eq c)
  cases q1 : ((c.toNat : Int) == 32) <;> cases q2 : ((c.toNat : Int) == 10) <;> cases q3 : ((c.toNat : Int) == 9)
  all_goals
    go_enter Tryz.func64, Tryz.ntmps64
    go_wp2
    go_ret
    exact ⟨ret_bool (by rw [E.out, q1, q2, q3]; rfl), rfl⟩

set_option maxRecDepth 4000 in
set_option maxHeartbeats 400000 in
theorem isDigit_any (c : UInt8) (w : World) :
    Calls Tryz.prog 143 #[.int .u8 c.toNat] w fun e w' => e = .returned (.bool (Pm.digitB c)) ∧ w' = w := by
  have E := hidr (Pm.digitB_eq c)
  cases q1 : decide ((48 : Int) ≤ c.toNat)
  all_goals
    go_enter Tryz.func143, Tryz.ntmps143
    go_wp2
    go_ret
    exact ⟨ret_bool (by rw [E.out, q1]; rfl), rfl⟩

set_option maxRecDepth 4000 in
set_option maxHeartbeats 400000 in
theorem digit_any (c : UInt8) (w : World) :
    Calls Tryz.prog 93 #[.int .u8 c.toNat] w fun e w' => e = .returned (.bool (Pm.digitB c)) ∧ w' = w := by
  have E := hidr (Pm.digitB_eq c)
  cases q1 : decide ((48 : Int) ≤ c.toNat)
  all_goals
    go_enter Tryz.func93, Tryz.ntmps93
    go_wp2
    go_ret
    exact ⟨ret_bool (by rw [E.out, q1]; rfl), rfl⟩

set_option maxRecDepth 4000 in
set_option maxHeartbeats 400000 in
theorem wrongAt_any (s : ByteArray) (a : Nat) (w : World) :
    Calls Tryz.prog 109 #[.string s, .int .i64 a] w fun e w' => e = .returned (.int .i64 (Pm.lackE s.size a)) ∧ w' = w := by
  by_cases h : s.size ≤ a
  · go_enter Tryz.func109, Tryz.ntmps109
    go_wp2
    go_ret
    exact ⟨ret_int (Pm.lackE_short h).symm, rfl⟩
  · go_enter Tryz.func109, Tryz.ntmps109
    go_wp2
    go_ret
    exact ⟨ret_int (Pm.lackE_syntax h).symm, rfl⟩

set_option maxRecDepth 4000 in
set_option maxHeartbeats 400000 in
theorem lacks_any (s : ByteArray) (a : Nat) (ha : a ≤ s.size) (w : World) :
    Calls Tryz.prog 35 #[.string s, .int .i64 a] w fun e w' => e = .returned (.tuple #[.int .i64 (Pm.lackE s.size a), .int .i64 a]) ∧ w' = w := by
  by_cases h : s.size ≤ a
  · have e : a = s.size := by omega
    subst e
    go_enter Tryz.func35, Tryz.ntmps35
    go_wp2
    go_ret2
    exact ⟨by rw [Pm.lackE_short h]; rfl, rfl⟩
  · go_enter Tryz.func35, Tryz.ntmps35
    go_wp2
    go_ret2
    exact ⟨by rw [Pm.lackE_syntax h]; rfl, rfl⟩

set_option maxRecDepth 4000 in
set_option maxHeartbeats 400000 in
theorem at_in (s : ByteArray) (a : Nat) (ha : a < s.size) (w : World) :
    Calls Tryz.prog 34 #[.string s, .int .i64 a] w fun e w' => e = .returned (.tuple #[.int .u8 s[a].toNat, .bool true]) ∧ w' = w := by
  go_enter Tryz.func34, Tryz.ntmps34
  go_wp2
  go_ret2
  exact ⟨rfl, rfl⟩

set_option maxRecDepth 4000 in
set_option maxHeartbeats 400000 in
theorem at_out (s : ByteArray) (a : Nat) (ha : ¬ a < s.size) (w : World) :
    Calls Tryz.prog 34 #[.string s, .int .i64 a] w fun e w' => e = .returned (.tuple #[.int .u8 0, .bool false]) ∧ w' = w := by
  go_enter Tryz.func34, Tryz.ntmps34
  go_wp2
  go_ret2
  exact ⟨rfl, rfl⟩
end Go.Proofs.YtljfiefobnncaabGreatDoor

/- skipBlanks, skipGap, past, Gap. -/
namespace Go.Proofs.YtljfiefobnncaabGreatDoor
open Go.RowKit

set_option maxRecDepth 4000 in
set_option maxHeartbeats 400000 in
theorem skipBlanks_any (s : ByteArray) (a : Nat) (ha : a ≤ s.size) (hs : s.size ≤ 140737488355328) (w : World) :
    Calls Tryz.prog 113 #[.string s, .int .i64 a] w fun e w' => e = .returned (.int .i64 (a + Pm.blanks (s.data.toList.drop a) : Nat)) ∧ w' = w := by
  go_enter Tryz.func113, Tryz.ntmps113
  go_wp2
  go_loop [1] (fun i => ∃ k : Nat, k ≤ s.size ∧ i = .int .i64 k ∧ Hid (a + Pm.blanks (s.data.toList.drop a) = k + Pm.blanks (s.data.toList.drop k))) (fun i => s.size - (intOf i).toNat)
  case atStart => exact ⟨a, ha, rfl, rfl⟩
  case round =>
    obtain ⟨k, hk, rfl, E⟩ := hrel
    by_cases hlt : k < s.size
    · have S := hidr (Pm.blanks_step s k hlt)
      cases hb : Pm.blankB s[k]
      · go_wp2_with (go_at_call 114; refine (isBlank_any s[k] _).mono ?_; rintro e w' ⟨rfl, rfl⟩; rw [hb])
        go_ret
        exact ⟨ret_int (by rw [E.out, S.out, if_neg (by simp [hb])]; omega), rfl⟩
      · go_wp2_with (go_at_call 114; refine (isBlank_any s[k] _).mono ?_; rintro e w' ⟨rfl, rfl⟩; rw [hb])
        go_round
        case rel => exact ⟨k + 1, by omega, by go_num, by show _ = _; rw [E.out, S.out, if_pos hb]; omega⟩
        case measure => simp [intOf]; omega
    · have S := hidr (Pm.blanks_end s k (by omega))
      go_wp2
      go_ret
      exact ⟨ret_int (by have := E.out; have := S.out; omega), rfl⟩

set_option maxRecDepth 4000 in
set_option maxHeartbeats 1000000 in
theorem skipGap_any (s : ByteArray) (a : Nat) (ha : a ≤ s.size) (hs : s.size ≤ 140737488355328) (w : World) :
    Calls Tryz.prog 111 #[.string s, .int .i64 a] w fun e w' => e = .returned (.int .i64 (Pm.gapEnd s.data.toList a : Nat)) ∧ w' = w := by
  go_enter Tryz.func111, Tryz.ntmps111
  go_wp2
  go_loop [1, 5] (fun i c => ∃ (k : Nat) (q : Bool), k ≤ s.size ∧ i = .int .i64 k ∧ c = .bool q ∧ Hid (Pm.gapEnd s.data.toList a = k + Pm.skipG (s.data.toList.drop k) q)) (fun i _ => s.size - (intOf i).toNat)
  case atStart => exact ⟨a, false, ha, rfl, rfl, rfl⟩
  case round =>
    obtain ⟨k, q, hk, rfl, rfl, E⟩ := hrel
    by_cases hlt : k < s.size
    · have S := hidr (Pm.skip_step s k hlt q)
      cases q35 : ((s[k].toNat : Int) == 35)
      · cases q10 : ((s[k].toNat : Int) == 10)
        · cases hb : Pm.blankB s[k]
          · cases q
            · go_wp2_with (go_at_call 114; refine (isBlank_any s[k] _).mono ?_; rintro e w' ⟨rfl, rfl⟩; rw [hb])
              go_ret
              exact ⟨ret_int (by rw [E.out, S.out, if_neg (by simp [hb, q35])]; omega), rfl⟩
            · go_wp2_with (go_at_call 114; refine (isBlank_any s[k] _).mono ?_; rintro e w' ⟨rfl, rfl⟩; rw [hb])
              go_round
              case rel => exact ⟨k + 1, true, by omega, by go_num, rfl, by show _ = _; rw [E.out, S.out, if_pos (by simp), q35, q10]; simp only [Bool.or_true, Bool.not_false, Bool.and_self]; omega⟩
              case measure => simp [intOf]; omega
          · cases q
            all_goals
              go_wp2_with (go_at_call 114; refine (isBlank_any s[k] _).mono ?_; rintro e w' ⟨rfl, rfl⟩; rw [hb])
              go_round
              case rel => exact ⟨k + 1, _, by omega, by go_num, rfl, by show _ = _; rw [E.out, S.out, if_pos (by simp [hb]), q35, q10]; simp only [Bool.or_true, Bool.or_self, Bool.not_false, Bool.and_self, Bool.and_false]; omega⟩
              case measure => simp [intOf]; omega
        · have hb : Pm.blankB s[k] = true := by rw [Pm.blankB_eq, q10]; simp
          cases q
          all_goals
            go_wp2_with (go_at_call 114; refine (isBlank_any s[k] _).mono ?_; rintro e w' ⟨rfl, rfl⟩; rw [hb])
            go_round
            case rel => exact ⟨k + 1, false, by omega, by go_num, rfl, by show _ = _; rw [E.out, S.out, if_pos (by simp [hb]), q35, q10]; simp only [Bool.not_true, Bool.false_and]; omega⟩
            case measure => simp [intOf]; omega
      · have q10 : ((s[k].toNat : Int) == 10) = false := by have := eq_of_beq q35; rw [this]; rfl
        cases q
        all_goals
          go_wp2
          go_round
          case rel => exact ⟨k + 1, true, by omega, by go_num, rfl, by show _ = _; rw [E.out, S.out, if_pos (by simp [q35]), q35, q10]; simp only [Bool.true_or, Bool.not_false, Bool.and_self]; omega⟩
          case measure => simp [intOf]; omega
    · have S := hidr (Pm.skip_end s k (by omega) q)
      go_wp2
      go_ret
      exact ⟨ret_int (by rw [E.out, S.out]; omega), rfl⟩
end Go.Proofs.YtljfiefobnncaabGreatDoor

/- The numbers of a text: scan.Number, outlineref.Number. -/
namespace Go.Proofs.YtljfiefobnncaabGreatDoor
open Go.RowKit

theorem results_tmp4 {fn : Func} {t u v x : Tmp} (h : fn.results = #[.tmp t, .tmp u, .tmp v, .tmp x]) (tmps : Array Value) (P : Program) (w : World) :
    (results fn tmps).run P w = .ok (.tuple #[tmps.getD t undef, tmps.getD u undef, tmps.getD v undef, tmps.getD x undef]) w := by
  simp [results, h]

theorem ret_two {k1 k2 : IntKind} {a b c d : Int} (h1 : a = c) (h2 : b = d) : Ending.returned (.tuple #[.int k1 a, .int k2 b]) = .returned (.tuple #[.int k1 c, .int k2 d]) := by rw [h1, h2]

set_option maxRecDepth 4000 in
set_option maxHeartbeats 1000000 in
theorem number_any (s : ByteArray) (g : Nat) (hg : g ≤ s.size) (hs : s.size ≤ 140737488355328) (w : World) :
    Calls Tryz.prog 63 #[.string s, .int .i64 g, .int .i64 32] w fun e w' => e = .returned (.tuple #[.int .i64 (Pm.numV 0 (s.data.toList.drop g) : Nat), .int .i64 (g + Pm.numC (s.data.toList.drop g) : Nat)]) ∧ w' = w := by
  go_enter Tryz.func63, Tryz.ntmps63
  go_wp2
  go_loop [8, 1] (fun v i => ∃ n k : Nat, n ≤ 33 ∧ g ≤ k ∧ k ≤ s.size ∧ i = .int .i64 k ∧ v = .int .i64 n ∧ Hid (Pm.numV 0 (s.data.toList.drop g) = Pm.numV n (s.data.toList.drop k) ∧ g + Pm.numC (s.data.toList.drop g) = k + Pm.numC (s.data.toList.drop k))) (fun _ i => s.size - (intOf i).toNat)
  case atStart => exact ⟨0, g, by omega, Nat.le_refl _, hg, rfl, rfl, rfl, rfl⟩
  case round =>
    obtain ⟨n, k, hn, hgk, hk, rfl, rfl, E⟩ := hrel
    have fin : ∀ (hv : Pm.numV n (s.data.toList.drop k) = n) (hc : Pm.numC (s.data.toList.drop k) = 0), Pm.numV 0 (s.data.toList.drop g) = n ∧ g + Pm.numC (s.data.toList.drop g) = k := fun hv hc => ⟨by rw [E.out.1, hv], by rw [E.out.2, hc]; omega⟩
    have FIN := hidr fin
    clear fin
    by_cases hlt : k < s.size
    · cases hd : Pm.digitB s[k]
      · have F := hidr (FIN.out (by rw [Pm.numV_step s k hlt, if_neg (by simp [hd])]) (by rw [Pm.numC_step s k hlt, if_neg (by simp [hd])]))
        go_wp2_with (go_at_call 93; refine (digit_any s[k] _).mono ?_; rintro e w' ⟨rfl, rfl⟩; rw [hd])
        go_ret2
        exact ⟨ret_two (by have := F.out.1; omega) (by have := F.out.2; omega), rfl⟩
      · have db := Pm.digit_bounds hd
        have C := hidr (Pm.numC_step s k hlt)
        by_cases big : 32 < 10 * (n : Int) + (s[k].toNat : Int) - 48
        · have V := hidr (Pm.numV_on s k hlt n 33 hd (by omega))
          go_wp2_with (go_at_call 93; refine (digit_any s[k] _).mono ?_; rintro e w' ⟨rfl, rfl⟩; rw [hd])
          go_round
          case rel => exact ⟨33, k + 1, by omega, by omega, by omega, by go_num, rfl, by rw [E.out.1, V.out], by rw [E.out.2, C.out, if_pos hd]; omega⟩
          case measure => simp [intOf]; omega
        · have V := hidr (Pm.numV_on s k hlt n (10 * n + (s[k].toNat - 48)) hd (by omega))
          go_wp2_with (go_at_call 93; refine (digit_any s[k] _).mono ?_; rintro e w' ⟨rfl, rfl⟩; rw [hd])
          go_round
          case rel => exact ⟨10 * n + (s[k].toNat - 48), k + 1, by omega, by omega, by omega, by go_num, by go_num, by rw [E.out.1, V.out], by rw [E.out.2, C.out, if_pos hd]; omega⟩
          case measure => simp [intOf]; omega
    · have F := hidr (FIN.out (Pm.numV_end s k (by omega) n) (Pm.numC_end s k (by omega)))
      go_wp2
      go_ret2
      exact ⟨ret_two (by have := F.out.1; omega) (by have := F.out.2; omega), rfl⟩

set_option maxRecDepth 4000 in
set_option maxHeartbeats 1000000 in
theorem scanNumber_any (s : ByteArray) (g : Nat) (hg : g ≤ s.size) (hs : s.size ≤ 140737488355328) (w : World) :
    Calls Tryz.prog 126 #[.string s, .int .i64 g] w fun e w' => e = .returned (.tuple #[.int .i64 (Pm.numV 0 (s.data.toList.drop g) : Nat), .int .i64 (g + Pm.numC (s.data.toList.drop g) : Nat)]) ∧ w' = w := by
  go_enter Tryz.func126, Tryz.ntmps126
  go_wp2
  go_loop [6, 7] (fun v i => ∃ n k : Nat, n ≤ 33 ∧ g ≤ k ∧ k ≤ s.size ∧ i = .int .i64 k ∧ v = .int .i64 n ∧ Hid (Pm.numV 0 (s.data.toList.drop g) = Pm.numV n (s.data.toList.drop k) ∧ g + Pm.numC (s.data.toList.drop g) = k + Pm.numC (s.data.toList.drop k))) (fun _ i => s.size - (intOf i).toNat)
  case atStart => exact ⟨0, g, by omega, Nat.le_refl _, hg, rfl, rfl, rfl, rfl⟩
  case round =>
    obtain ⟨n, k, hn, hgk, hk, rfl, rfl, E⟩ := hrel
    have fin : ∀ (hv : Pm.numV n (s.data.toList.drop k) = n) (hc : Pm.numC (s.data.toList.drop k) = 0), Pm.numV 0 (s.data.toList.drop g) = n ∧ g + Pm.numC (s.data.toList.drop g) = k := fun hv hc => ⟨by rw [E.out.1, hv], by rw [E.out.2, hc]; omega⟩
    have FIN := hidr fin
    clear fin
    by_cases hlt : k < s.size
    · cases hd : Pm.digitB s[k]
      · have F := hidr (FIN.out (by rw [Pm.numV_step s k hlt, if_neg (by simp [hd])]) (by rw [Pm.numC_step s k hlt, if_neg (by simp [hd])]))
        go_wp2_with (go_at_call 143; refine (isDigit_any s[k] _).mono ?_; rintro e w' ⟨rfl, rfl⟩; rw [hd])
        go_ret2
        exact ⟨ret_two (by have := F.out.1; omega) (by have := F.out.2; omega), rfl⟩
      · have db := Pm.digit_bounds hd
        have C := hidr (Pm.numC_step s k hlt)
        by_cases big : 32 < 10 * (n : Int) + (s[k].toNat : Int) - 48
        · have V := hidr (Pm.numV_on s k hlt n 33 hd (by omega))
          have big2 : 32 < (n : Int) * 10 + ((s[k].toNat : Int) - 48) := by omega
          go_wp2_with (go_at_call 143; refine (isDigit_any s[k] _).mono ?_; rintro e w' ⟨rfl, rfl⟩; rw [hd])
          go_round
          case rel => exact ⟨33, k + 1, by omega, by omega, by omega, by go_num, rfl, by rw [E.out.1, V.out], by rw [E.out.2, C.out, if_pos hd]; omega⟩
          case measure => simp [intOf]; omega
        · have V := hidr (Pm.numV_on s k hlt n (10 * n + (s[k].toNat - 48)) hd (by omega))
          have big2 : ¬ 32 < (n : Int) * 10 + ((s[k].toNat : Int) - 48) := by omega
          go_wp2_with (go_at_call 143; refine (isDigit_any s[k] _).mono ?_; rintro e w' ⟨rfl, rfl⟩; rw [hd])
          go_round
          case rel => exact ⟨10 * n + (s[k].toNat - 48), k + 1, by omega, by omega, by omega, by go_num, by go_num, by rw [E.out.1, V.out], by rw [E.out.2, C.out, if_pos hd]; omega⟩
          case measure => simp [intOf]; omega
    · have F := hidr (FIN.out (Pm.numV_end s k (by omega) n) (Pm.numC_end s k (by omega)))
      go_wp2
      go_ret2
      exact ⟨ret_two (by have := F.out.1; omega) (by have := F.out.2; omega), rfl⟩

end Go.Proofs.YtljfiefobnncaabGreatDoor

/- past, Gap, readNumber, Number. -/
namespace Go.Proofs.YtljfiefobnncaabGreatDoor
open Go.RowKit

/-- Where a comment that begins at a ends: behind its newline, or not at all. -/
def pastOut (s : ByteArray) (a : Nat) (r : Int) : Prop :=
  (∃ p : Nat, r = (p : Int) ∧ a < p ∧ p ≤ s.size ∧ Pm.skipG (s.data.toList.drop a) true + a = p + Pm.skipG (s.data.toList.drop p) false) ∨
  (r = -1 ∧ Pm.skipG (s.data.toList.drop a) true + a = s.size)

set_option maxRecDepth 4000 in
set_option maxHeartbeats 400000 in
theorem past_any (s : ByteArray) (a : Nat) (ha : a ≤ s.size) (hs : s.size ≤ 140737488355328) (w : World) :
    Calls Tryz.prog 92 #[.string s, .int .i64 a] w fun e w' => (∃ r, e = .returned (.int .i64 r) ∧ pastOut s a r) ∧ w' = w := by
  go_enter Tryz.func92, Tryz.ntmps92
  go_wp2
  go_loop [5] (fun i => ∃ k : Nat, a ≤ k ∧ k ≤ s.size ∧ i = .int .i64 k ∧ Hid (Pm.skipG (s.data.toList.drop a) true + a = k + Pm.skipG (s.data.toList.drop k) true)) (fun i => s.size - (intOf i).toNat)
  case atStart => exact ⟨a, Nat.le_refl _, ha, rfl, Nat.add_comm _ _⟩
  case round =>
    obtain ⟨k, hak, hk, rfl, E⟩ := hrel
    by_cases hlt : k < s.size
    · cases q10 : ((s[k].toNat : Int) == 10)
      · have S := hidr (Pm.skip_in s k hlt q10)
        go_wp2
        go_round
        case rel => exact ⟨k + 1, by omega, by omega, by go_num, by show _ = _; rw [E.out, S.out]; omega⟩
        case measure => simp [intOf]; omega
      · have S := hidr (Pm.skip_nl s k hlt q10)
        go_wp2
        go_ret
        exact ⟨⟨_, rfl, .inl ⟨k + 1, by simp, by omega, by omega, by rw [E.out, S.out]; omega⟩⟩, rfl⟩
    · have S := hidr (Pm.skip_end s k (by omega) true)
      go_wp2
      go_ret
      exact ⟨⟨_, rfl, .inr ⟨rfl, by rw [E.out, S.out]; omega⟩⟩, rfl⟩

/-- What Gap answers: the gap's end; or -1, where a comment goes on to the end. -/
def gapOut (s : ByteArray) (a : Nat) (g : Int) : Prop :=
  g = (Pm.gapEnd s.data.toList a : Nat) ∨ (g = -1 ∧ a < Pm.gapEnd s.data.toList a ∧ Pm.gapEnd s.data.toList a = s.size)

set_option maxRecDepth 4000 in
set_option maxHeartbeats 400000 in
theorem gap_any (s : ByteArray) (a : Nat) (ha : a ≤ s.size) (hs : s.size ≤ 140737488355328) (w : World) :
    Calls Tryz.prog 62 #[.string s, .int .i64 a] w fun e w' => (∃ g, e = .returned (.int .i64 g) ∧ gapOut s a g) ∧ w' = w := by
  go_enter Tryz.func62, Tryz.ntmps62
  go_wp2
  go_loop [1] (fun i => ∃ k : Nat, a ≤ k ∧ k ≤ s.size ∧ i = .int .i64 k ∧ Hid (Pm.gapEnd s.data.toList a = k + Pm.skipG (s.data.toList.drop k) false)) (fun i => s.size - (intOf i).toNat)
  case atStart => exact ⟨a, Nat.le_refl _, ha, rfl, rfl⟩
  case round =>
    obtain ⟨k, hak, hk, rfl, E⟩ := hrel
    by_cases hlt : k < s.size
    · cases q35 : ((s[k].toNat : Int) == 35)
      · cases hb : Pm.blankB s[k]
        · have S := hidr (Pm.skip_not s k hlt q35 hb)
          go_wp2_with (go_at_call 64; refine (blank_any s[k] _).mono ?_; rintro e w' ⟨rfl, rfl⟩; rw [hb])
          go_ret
          exact ⟨⟨_, rfl, .inl (by rw [E.out, S.out]; rfl)⟩, rfl⟩
        · have S := hidr (Pm.skip_blank s k hlt q35 hb)
          go_wp2_with (go_at_call 64; refine (blank_any s[k] _).mono ?_; rintro e w' ⟨rfl, rfl⟩; rw [hb])
          go_round
          case rel => exact ⟨k + 1, by omega, by omega, by go_num, by show _ = _; rw [E.out, S.out]; omega⟩
          case measure => simp [intOf]; omega
      · have hb : Pm.blankB s[k] = false := by rw [Pm.blankB_eq, eq_of_beq q35]; rfl
        have S := hidr (Pm.skip_hash s k hlt q35 false)
        have q10 : ((s[k].toNat : Int) == 10) = false := by have := eq_of_beq q35; rw [this]; rfl
        have S2 := hidr (Pm.skip_in s k hlt q10)
        clear q10
        go_wp2_with (go_at_call 64; refine (blank_any s[k] _).mono ?_; rintro e w' ⟨rfl, rfl⟩; rw [hb])
        refine (past_any s k hk hs _).mono ?_
        rintro e w2 ⟨⟨r, rfl, ho⟩, rfl⟩
        rcases ho with ⟨p, rfl, h1, h2, h3⟩ | ⟨rfl, h3⟩
        · have H3 := hidr h3
          clear h3
          go_wp2
          go_round
          case rel => exact ⟨p, by omega, by omega, rfl, by show _ = _; have := E.out; have := S.out; have := S2.out; have := H3.out; omega⟩
          case measure => simp [intOf]; omega
        · have H3 := hidr h3
          clear h3
          go_wp2
          go_ret
          exact ⟨⟨_, rfl, .inr ⟨rfl, by have := E.out; have := S.out; have := S2.out; have := H3.out; omega, by have := E.out; have := S.out; have := S2.out; have := H3.out; omega⟩⟩, rfl⟩
    · have S := hidr (Pm.skip_end s k (by omega) false)
      go_wp2
      go_ret
      exact ⟨⟨_, rfl, .inl (by rw [E.out, S.out]; rfl)⟩, rfl⟩

set_option maxRecDepth 4000 in
set_option maxHeartbeats 2000000 in
theorem readNumber_any (s : ByteArray) (g : Nat) (hg : g ≤ s.size) (hs : s.size ≤ 140737488355328) (w : World) :
    Calls Tryz.prog 112 #[.string s, .int .i64 g] w fun e w' => (∃ (n p : Nat) (r : Int), e = .returned (.tuple #[.int .i64 n, .int .i64 p, .int .i64 r]) ∧ Pm.numOut s.data.toList g n p r) ∧ w' = w := by
  have c := scanNumber_any s g hg hs
  obtain ⟨n, hn⟩ : ∃ n, n = Pm.numV 0 (s.data.toList.drop g) := ⟨_, rfl⟩
  obtain ⟨m, hm⟩ : ∃ m, m = Pm.numC (s.data.toList.drop g) := ⟨_, rfl⟩
  rw [← hn, ← hm] at c
  have HN := hidr hn
  have HM := hidr hm
  have C := hidr c
  clear c hn hm
  by_cases m0 : m = 0
  · have M0 := hidr m0
    have b0 : (((g + m : Nat) : Int) == (g : Int)) = true := beq_iff_eq.2 (by omega)
    clear m0
    go_enter Tryz.func112, Tryz.ntmps112
    go_wp2_with (first | (go_at_call 126; refine (C.out _).mono ?_; rintro e w' ⟨rfl, rfl⟩) | (go_at_call 109; refine (wrongAt_any s (g + m) _).mono ?_; rintro e w' ⟨rfl, rfl⟩))
    go_ret3
    exact ⟨⟨0, g + m, _, rfl, .inl ⟨by rw [← HM.out]; exact M0.out, rfl, by have := M0.out; omega, by have := M0.out; subst this; simp⟩⟩, rfl⟩
  · have b0 : (((g + m : Nat) : Int) == (g : Int)) = false := beq_eq_false_iff_ne.2 (by omega)
    by_cases n0 : n = 0
    · have b1 : ((n : Int) == 0) = true := beq_iff_eq.2 (by omega)
      have N0 := hidr n0
      clear n0
      go_enter Tryz.func112, Tryz.ntmps112
      go_wp2_with (first | (go_at_call 126; refine (C.out _).mono ?_; rintro e w' ⟨rfl, rfl⟩) | fail)
      go_ret3
      exact ⟨⟨0, g, _, rfl, .inr (.inl ⟨by have := HM.out; omega, .inl (by rw [← HN.out]; exact N0.out), rfl, rfl, rfl⟩)⟩, rfl⟩
    · have b1 : ((n : Int) == 0) = false := beq_eq_false_iff_ne.2 (by omega)
      by_cases n1 : 32 < n
      · go_enter Tryz.func112, Tryz.ntmps112
        go_wp2_with (first | (go_at_call 126; refine (C.out _).mono ?_; rintro e w' ⟨rfl, rfl⟩) | fail)
        go_ret3
        exact ⟨⟨0, g, _, rfl, .inr (.inl ⟨by have := HM.out; omega, .inr (by rw [← HN.out]; exact n1), rfl, rfl, rfl⟩)⟩, rfl⟩
      · go_enter Tryz.func112, Tryz.ntmps112
        go_wp2_with (first | (go_at_call 126; refine (C.out _).mono ?_; rintro e w' ⟨rfl, rfl⟩) | fail)
        go_ret3
        exact ⟨⟨n, g + m, _, rfl, .inr (.inr ⟨by have := HM.out; omega, by have := HN.out; omega, by have := HN.out; omega, HN.out, by have := HM.out; omega, rfl⟩)⟩, rfl⟩

end Go.Proofs.YtljfiefobnncaabGreatDoor

/- Number, readSide, side. -/
namespace Go.Proofs.YtljfiefobnncaabGreatDoor
open Go.RowKit

set_option maxRecDepth 4000 in
set_option maxHeartbeats 400000 in
theorem readSide_any (s : ByteArray) (a : Nat) (ha : a ≤ s.size) (hs : s.size ≤ 140737488355328) (w : World) :
    Calls Tryz.prog 89 #[.string s, .int .i64 a] w fun e w' => (∃ (n p : Nat) (r : Int), e = .returned (.tuple #[.int .i64 n, .int .i64 p, .int .i64 r]) ∧ Pm.sideOut s.data.toList a n p r) ∧ w' = w := by
  obtain ⟨g, hg⟩ : ∃ g, g = Pm.gapEnd s.data.toList a := ⟨_, rfl⟩
  have g1 : a ≤ g := hg ▸ Pm.gapEnd_ge _ _
  have g2 : g ≤ s.size := hg ▸ (by simpa using Pm.gapEnd_le s.data.toList a (by simpa using ha))
  have G := hidr hg
  clear hg
  have c := skipGap_any s a ha hs
  rw [← G.out] at c
  have C := hidr c
  clear c
  by_cases hga : g = a
  · have b0 : ((g : Int) == (a : Int)) = true := by rw [hga]; simp
    have GA := hidr hga
    clear hga
    go_enter Tryz.func89, Tryz.ntmps89
    go_wp2_with (first | (go_at_call 111; refine (C.out _).mono ?_; rintro e w' ⟨rfl, rfl⟩) | (go_at_call 109; refine (wrongAt_any s a _).mono ?_; rintro e w' ⟨rfl, rfl⟩))
    go_ret3
    exact ⟨⟨0, a, _, rfl, .inl ⟨by rw [← G.out]; exact GA.out, rfl, rfl, by simp⟩⟩, rfl⟩
  · have b0 : ((g : Int) == (a : Int)) = false := beq_eq_false_iff_ne.2 (by omega)
    go_enter Tryz.func89, Tryz.ntmps89
    go_wp2_with (first | (go_at_call 111; refine (C.out _).mono ?_; rintro e w' ⟨rfl, rfl⟩) | (go_at_call 112; refine (readNumber_any s g g2 hs _).mono ?_; rintro e w' ⟨⟨n, p, r, rfl, ho⟩, rfl⟩))
    go_ret3
    exact ⟨⟨n, p, r, rfl, .inr (by rw [← G.out]; exact ⟨by omega, ho⟩)⟩, rfl⟩

/-- What the document's own 'side' answers: as the code does, the place apart. -/
def sideRef (l : List UInt8) (a n p : Nat) (e : Int) (q : Nat) : Prop :=
  ∃ n' p', Pm.sideOut l a n' p' e ∧ ((e = 0 ∧ n = n' ∧ p = p' ∧ q = 0) ∨ (e ≠ 0 ∧ n = 0 ∧ p = 0 ∧ q = p'))
theorem lackE_ne (n a : Nat) : Pm.lackE n a ≠ 0 := by unfold Pm.lackE; split <;> omega

set_option maxRecDepth 4000 in
set_option maxHeartbeats 1000000 in
theorem side_any (s : ByteArray) (a : Nat) (ha : a ≤ s.size) (hs : s.size ≤ 140737488355328) (w : World) :
    Calls Tryz.prog 36 #[.string s, .int .i64 a] w fun e w' => (∃ (n p : Nat) (r : Int) (q : Nat), e = .returned (.tuple #[.int .i64 n, .int .i64 p, .int .i64 r, .int .i64 q]) ∧ sideRef s.data.toList a n p r q) ∧ w' = w := by
  have Z := hidr (Pm.gapEnd_le s.data.toList a (by simpa using ha))
  have Z1 := hidr (Pm.gapEnd_ge s.data.toList a)
  go_enter Tryz.func36, Tryz.ntmps36
  go_wp2_with (go_at_call 62; fail)
  refine (gap_any s a ha hs _).mono ?_
  rintro e w1 ⟨⟨g0, rfl, ho⟩, rfl⟩
  rcases ho with hg | ⟨rfl, h1, h2⟩
  · obtain ⟨g, hgg⟩ : ∃ g, g = Pm.gapEnd s.data.toList a := ⟨_, rfl⟩
    rw [← hgg] at hg
    subst hg
    have g1 : a ≤ g := hgg ▸ Z1.out
    have g2 : g ≤ s.size := hgg ▸ (by simpa using Z.out)
    have G := hidr hgg
    clear hgg
    obtain ⟨nv, hnv⟩ : ∃ nv, nv = Pm.numV 0 (s.data.toList.drop g) := ⟨_, rfl⟩
    obtain ⟨nc, hnc⟩ : ∃ nc, nc = Pm.numC (s.data.toList.drop g) := ⟨_, rfl⟩
    have cN := number_any s g g2 hs
    rw [← hnv, ← hnc] at cN
    have CN := hidr cN
    have NV := hidr hnv
    have NC := hidr hnc
    have nb : nv ≤ 33 := by rw [hnv]; exact Pm.numV_le _ _ (by omega)
    have cb : nc ≤ s.size := by rw [hnc]; exact Nat.le_trans (Pm.numC_le _) (by simp)
    clear cN hnv hnc
    by_cases hga : g = a
    · subst hga
      go_wp2_with (go_at_call 35; refine (lacks_any s g g2 _).mono ?_; rintro e w' ⟨rfl, rfl⟩)
      refine bodyPost_ret (results_tmp4 rfl _ _ _) rfl ?_
      exact ⟨⟨0, 0, _, g, rfl, 0, g, .inl ⟨G.out.symm, rfl, rfl, by simp⟩, .inr ⟨lackE_ne _ _, rfl, rfl, rfl⟩⟩, rfl⟩
    · have b0 : ((g : Int) == (a : Int)) = false := beq_eq_false_iff_ne.2 (by omega)
      by_cases c0 : nc = 0
      · have b1 : ((g : Int) + (nc : Int) == (g : Int)) = true := beq_iff_eq.2 (by omega)
        have C0 := hidr c0
        clear c0
        go_wp2_with (first | (go_at_call 63; refine (CN.out _).mono ?_; rintro e w' ⟨rfl, rfl⟩) | (go_at_call 35; refine (lacks_any s g g2 _).mono ?_; rintro e w' ⟨rfl, rfl⟩))
        refine bodyPost_ret (results_tmp4 rfl _ _ _) rfl ?_
        exact ⟨⟨0, 0, _, g, rfl, 0, g, .inr (by rw [← G.out]; exact ⟨by omega, .inl ⟨by rw [← NC.out]; exact C0.out, rfl, rfl, by simp⟩⟩), .inr ⟨lackE_ne _ _, rfl, rfl, rfl⟩⟩, rfl⟩
      · have b1 : ((g : Int) + (nc : Int) == (g : Int)) = false := beq_eq_false_iff_ne.2 (by omega)
        by_cases n0 : nv < 1
        · go_wp2_with (first | (go_at_call 63; refine (CN.out _).mono ?_; rintro e w' ⟨rfl, rfl⟩))
          refine bodyPost_ret (results_tmp4 rfl _ _ _) rfl ?_
          exact ⟨⟨0, 0, 3, g, rfl, 0, g, .inr (by rw [← G.out]; exact ⟨by omega, .inr (.inl ⟨by rw [← NC.out]; omega, .inl (by rw [← NV.out]; omega), rfl, rfl, rfl⟩)⟩), .inr ⟨by omega, rfl, rfl, rfl⟩⟩, rfl⟩
        · by_cases n1 : 32 < nv
          · go_wp2_with (first | (go_at_call 63; refine (CN.out _).mono ?_; rintro e w' ⟨rfl, rfl⟩))
            refine bodyPost_ret (results_tmp4 rfl _ _ _) rfl ?_
            exact ⟨⟨0, 0, 3, g, rfl, 0, g, .inr (by rw [← G.out]; exact ⟨by omega, .inr (.inl ⟨by rw [← NC.out]; omega, .inr (by rw [← NV.out]; omega), rfl, rfl, rfl⟩)⟩), .inr ⟨by omega, rfl, rfl, rfl⟩⟩, rfl⟩
          · go_wp2_with (first | (go_at_call 63; refine (CN.out _).mono ?_; rintro e w' ⟨rfl, rfl⟩))
            refine bodyPost_ret (results_tmp4 rfl _ _ _) rfl ?_
            exact ⟨⟨nv, g + nc, 0, 0, rfl, nv, g + nc, .inr (by rw [← G.out]; exact ⟨by omega, .inr (.inr ⟨by rw [← NC.out]; omega, by rw [← NV.out]; omega, by rw [← NV.out]; omega, NV.out, by rw [← NC.out], rfl⟩)⟩), .inl ⟨rfl, rfl, rfl, rfl⟩⟩, rfl⟩
  · have H1 := hidr h1
    have H2 := hidr h2
    clear h1 h2
    go_wp2
    refine bodyPost_ret (results_tmp4 rfl _ _ _) rfl ?_
    refine ⟨⟨0, 0, _, s.size, rfl, 0, s.size, .inr ⟨H1.out, ?_⟩, .inr ⟨by omega, rfl, rfl, rfl⟩⟩, rfl⟩
    rw [H2.out]
    exact .inl ⟨Pm.numC_end s _ (Nat.le_refl _), rfl, rfl, (Pm.lackE_short (by simp)).symm⟩
end Go.Proofs.YtljfiefobnncaabGreatDoor
