import Derived.WalkKit
import Derived.Test.YtljfiefobnncaabGreatDoorRows
import Derived.WalkSpells
import Derived.WalkLawsBesides
import Derived.Deep.RegionWith
import Derived.Deep.QuietTactic
import Derived.BigQuiet

/- Plain facts on bytes and lists for the bitmap files: nothing of the program stands here. -/
namespace Go.Proofs.YtljfiefobnncaabGreatDoor.Pm

/-- May the byte stand for a pixel? -/
def okPix (c : UInt8) : Bool := c == 48 || c == 49
/-- May the number be a side? -/
def sideB (n : Int) : Bool := decide (1 ≤ n ∧ n ≤ 32)
theorem sideB_yes {n : Int} (h1 : 1 ≤ n) (h2 : n ≤ 32) : sideB n = true := decide_eq_true ⟨h1, h2⟩
theorem sideB_low {n : Int} (h1 : ¬ 1 ≤ n) : sideB n = false := decide_eq_false (by omega)
theorem sideB_high {n : Int} (h1 : ¬ n ≤ 32) : sideB n = false := decide_eq_false (by omega)
theorem sideB_bounds {n : Int} (h : sideB n = true) : 1 ≤ n ∧ n ≤ 32 := of_decide_eq_true h
theorem area_le {w h : Int} (h1 : 1 ≤ w) (h2 : w ≤ 32) (h3 : 1 ≤ h) (h4 : h ≤ 32) : 1 ≤ w * h ∧ w * h ≤ 1024 := by
  have a : 1 * 1 ≤ w * h := Int.mul_le_mul h1 h3 (by omega) (by omega)
  have b : w * h ≤ 32 * 32 := Int.mul_le_mul h2 h4 (by omega) (by omega)
  omega
/-- Are W, H, s a bitmap? -/
def goodB (w h : Int) (s : List UInt8) : Bool := sideB w && sideB h && decide ((s.length : Int) = w * h) && s.all okPix
theorem goodB_w {w h : Int} {s : List UInt8} (h1 : sideB w = false) : goodB w h s = false := by simp [goodB, h1]
theorem goodB_h {w h : Int} {s : List UInt8} (h1 : sideB h = false) : goodB w h s = false := by simp [goodB, h1]
theorem goodB_len {w h : Int} {s : List UInt8} (h1 : ¬ (s.length : Int) = w * h) : goodB w h s = false := by simp [goodB, h1]
theorem goodB_pix {w h : Int} {s : List UInt8} (k : Nat) (hk : k < s.length) (h1 : okPix s[k] = false) : goodB w h s = false := by
  have : s.all okPix = false := by
    rw [List.all_eq_false]; exact ⟨s[k], List.getElem_mem hk, by simp [h1]⟩
  simp [goodB, this]
theorem goodB_yes {w h : Int} {s : List UInt8} (h1 : sideB w = true) (h2 : sideB h = true) (h3 : (s.length : Int) = w * h) (h4 : s.all okPix = true) : goodB w h s = true := by simp [goodB, h1, h2, h3, h4]
theorem all_take_succ (s : List UInt8) (k : Nat) (hk : k < s.length) (h : (s.take k).all okPix = true) (h1 : okPix s[k] = true) : (s.take (k + 1)).all okPix = true := by
  rw [List.take_succ_eq_append_getElem hk]; simp only [List.all_append, h, List.all_cons, h1, List.all_nil, Bool.and_self]
theorem okPix_of (c : UInt8) (h : (c.toNat : Int) = 48 ∨ (c.toNat : Int) = 49) : okPix c = true := by
  have e : ∀ c : UInt8, c.toNat = 48 ∨ c.toNat = 49 → okPix c = true := by
    intro c h
    rcases h with h | h
    · have : c = 48 := UInt8.toNat_inj.1 h
      subst this; rfl
    · have : c = 49 := UInt8.toNat_inj.1 h
      subst this; rfl
  exact e c (by omega)
theorem okPix_not (c : UInt8) (h1 : ¬ (c.toNat : Int) = 48) (h2 : ¬ (c.toNat : Int) = 49) : okPix c = false := by
  have a : c ≠ 48 := fun e => h1 (by subst e; rfl)
  have b : c ≠ 49 := fun e => h2 (by subst e; rfl)
  simp [okPix, a, b]
theorem all_step (s : ByteArray) (k : Nat) (hk : k < s.size) (h : (s.data.toList.take k).all okPix = true) (h1 : (s[k].toNat : Int) = 48 ∨ (s[k].toNat : Int) = 49) : (s.data.toList.take (k + 1)).all okPix = true :=
  all_take_succ s.data.toList k (by simpa using hk) h (okPix_of _ h1)
theorem goodB_bad {w h : Int} (s : ByteArray) (k : Nat) (hk : k < s.size) (h1 : ¬ (s[k].toNat : Int) = 48) (h2 : ¬ (s[k].toNat : Int) = 49) : goodB w h s.data.toList = false :=
  goodB_pix k (by simpa using hk) (okPix_not _ h1 h2)
/-- Is there a '1' at place i? -/
def bitAt (l : List UInt8) (i : Nat) : Bool := l[i]? == some 49
/-- The first n bits of f, as a number, the first of them the highest. -/
def packV (f : Nat → Bool) : Nat → Nat
  | 0 => 0
  | n + 1 => 2 * packV f n + if f n then 1 else 0
theorem packV_lt (f : Nat → Bool) : ∀ n, packV f n < 2 ^ n
  | 0 => by simp [packV]
  | n + 1 => by have := packV_lt f n; simp only [packV, Nat.pow_succ]; split <;> omega
theorem packV_le (f : Nat → Bool) (n : Nat) (h : n ≤ 8) : packV f n ≤ 255 := by
  have h1 := packV_lt f n
  have h2 : 2 ^ n ≤ 2 ^ 8 := Nat.pow_le_pow_right (by omega) h
  omega
theorem packV_le' (f : Nat → Bool) (n : Nat) (h : n < 8) : packV f n ≤ 127 := by
  have h1 := packV_lt f n
  have h2 : 2 ^ n ≤ 2 ^ 7 := Nat.pow_le_pow_right (by omega) (by omega)
  omega
theorem packV_yes (f : Nat → Bool) (n : Nat) (h : f n = true) : packV f (n + 1) = 2 * packV f n + 1 := by simp [packV, h]
theorem packV_no (f : Nat → Bool) (n : Nat) (h : f n = false) : packV f (n + 1) = 2 * packV f n := by simp [packV, h]
theorem packV_congr (f g : Nat → Bool) : ∀ n, (∀ i, i < n → f i = g i) → packV f n = packV g n
  | 0, _ => rfl
  | n + 1, h => by simp only [packV]; rw [packV_congr f g n (fun i hi => h i (by omega)), h n (by omega)]
theorem bitAt_yes (s : ByteArray) (i : Nat) (h : i < s.size) (h1 : (s[i].toNat : Int) = 49) : bitAt s.data.toList i = true := by
  have : s[i] = 49 := UInt8.toNat_inj.1 (by rw [show UInt8.toNat 49 = 49 from rfl]; omega)
  have e : s.data.toList[i]? = some s[i] := by rw [List.getElem?_eq_getElem (by simpa using h)]; rfl
  simp [bitAt, e, this]
theorem bitAt_no (s : ByteArray) (i : Nat) (h : i < s.size) (h1 : ¬ (s[i].toNat : Int) = 49) : bitAt s.data.toList i = false := by
  have : s[i] ≠ 49 := fun e => h1 (by rw [e]; rfl)
  have e : s.data.toList[i]? = some s[i] := by rw [List.getElem?_eq_getElem (by simpa using h)]; rfl
  simp [bitAt, e, this]
theorem bitAt_out (s : ByteArray) (i : Nat) (h : ¬ i < s.size) : bitAt s.data.toList i = false := by
  have e : s.data.toList[i]? = none := by rw [List.getElem?_eq_none]; simpa using h
  simp [bitAt, e]
/-- The byte of the eight pixels from place i on. -/
def byteAt (l : List UInt8) (i : Nat) : UInt8 := UInt8.ofNat (packV (fun k => bitAt l (i + k)) 8)
theorem byteAt_toNat (l : List UInt8) (i : Nat) : (byteAt l i).toNat = packV (fun k => bitAt l (i + k)) 8 := by
  have := packV_le (fun k => bitAt l (i + k)) 8 (Nat.le_refl _)
  simp only [byteAt, UInt8.toNat_ofNat']; omega
/-- The first m packed bytes of a row. -/
def packTo (l : List UInt8) (m : Nat) : List UInt8 := (List.range m).map fun j => byteAt l (8 * j)
theorem packTo_succ (l : List UInt8) (m : Nat) : packTo l (m + 1) = packTo l m ++ [byteAt l (8 * m)] := by simp [packTo, List.range_succ]
theorem packTo_length (l : List UInt8) (m : Nat) : (packTo l m).length = m := by simp [packTo]
/-- A packed row. -/
def packRow (l : List UInt8) : List UInt8 := packTo l ((l.length + 7) / 8)
/-- The decimal digits of a number below 100. -/
def itoaL (n : Nat) : List UInt8 := if n < 10 then [48 + n.toUInt8] else [48 + (n / 10).toUInt8, 48 + (n % 10).toUInt8]
/-- The two constants out of which small numbers are cut. -/
def tenDigits : ByteArray := ⟨#[48, 49, 50, 51, 52, 53, 54, 55, 56, 57, 97, 98, 99, 100, 101, 102, 103, 104, 105, 106, 107, 108, 109, 110, 111, 112, 113, 114, 115, 116, 117, 118, 119, 120, 121, 122]⟩
def smalls : ByteArray := ⟨(([48, 48, 48, 49, 48, 50, 48, 51, 48, 52, 48, 53, 48, 54, 48, 55, 48, 56, 48, 57, 49, 48, 49, 49, 49, 50, 49, 51, 49, 52, 49, 53, 49, 54, 49, 55, 49, 56, 49, 57, 50, 48, 50, 49, 50, 50, 50, 51, 50, 52].append [50, 53, 50, 54, 50, 55, 50, 56, 50, 57, 51, 48, 51, 49, 51, 50, 51, 51, 51, 52, 51, 53, 51, 54, 51, 55, 51, 56, 51, 57, 52, 48, 52, 49, 52, 50, 52, 51, 52, 52, 52, 53, 52, 54, 52, 55, 52, 56, 52, 57]).append ([53, 48, 53, 49, 53, 50, 53, 51, 53, 52, 53, 53, 53, 54, 53, 55, 53, 56, 53, 57, 54, 48, 54, 49, 54, 50, 54, 51, 54, 52, 54, 53, 54, 54, 54, 55, 54, 56, 54, 57, 55, 48, 55, 49, 55, 50, 55, 51, 55, 52].append [55, 53, 55, 54, 55, 55, 55, 56, 55, 57, 56, 48, 56, 49, 56, 50, 56, 51, 56, 52, 56, 53, 56, 54, 56, 55, 56, 56, 56, 57, 57, 48, 57, 49, 57, 50, 57, 51, 57, 52, 57, 53, 57, 54, 57, 55, 57, 56, 57, 57])).toArray⟩
theorem cut_one : ∀ n, n < 10 → tenDigits.extract n (n + 1) = ⟨(itoaL n).toArray⟩ := by decide +kernel
theorem cut_two : ∀ n, n < 33 → 10 ≤ n → smalls.extract (n * 2) (n * 2 + 2) = ⟨(itoaL n).toArray⟩ := by decide +kernel
theorem cut_two' (n : Nat) (h : n < 33) (h1 : 10 ≤ n) (a b : Nat) (ha : a = n * 2) (hb : b = n * 2 + 2) : smalls.extract a b = ⟨(itoaL n).toArray⟩ := by subst ha hb; exact cut_two n h h1
end Go.Proofs.YtljfiefobnncaabGreatDoor.Pm

/- Walks of the small functions under Read and Write. -/
namespace Go.Proofs.YtljfiefobnncaabGreatDoor
open Go.RowKit

theorem ret_string {a b : ByteArray} (h : a = b) : Ending.returned (.string a) = .returned (.string b) := by rw [h]
theorem ret_bool {a b : Bool} (h : a = b) : Ending.returned (.bool a) = .returned (.bool b) := by rw [h]
theorem ret_int {k : IntKind} {a b : Int} (h : a = b) : Ending.returned (.int k a) = .returned (.int k b) := by rw [h]

set_option maxRecDepth 4000 in
set_option maxHeartbeats 400000 in
theorem isSide_any (n : Int) (w : World) :
    Calls Tryz.prog 83 #[.int .i64 n] w fun e w' => e = .returned (.bool (Pm.sideB n)) ∧ w' = w := by
  by_cases h1 : 1 ≤ n
  · by_cases h2 : n ≤ 32
    · go_enter Tryz.func83, Tryz.ntmps83
      go_wp2
      go_ret
      exact ⟨ret_bool (Pm.sideB_yes h1 h2).symm, rfl⟩
    · go_enter Tryz.func83, Tryz.ntmps83
      go_wp2
      go_ret
      exact ⟨ret_bool (Pm.sideB_high (n := n) (by omega)).symm, rfl⟩
  · go_enter Tryz.func83, Tryz.ntmps83
    go_wp2
    go_ret
    exact ⟨ret_bool (Pm.sideB_low (by omega)).symm, rfl⟩

set_option maxRecDepth 100000 in
set_option maxHeartbeats 400000 in
theorem small_any (n : Nat) (h : n < 33) (w : World) :
    Calls Tryz.prog 116 #[.int .i64 n] w fun e w' => e = .returned (.string ⟨(Pm.itoaL n).toArray⟩) ∧ w' = w := by
  by_cases h1 : n < 10
  · go_enter Tryz.func116, Tryz.ntmps116
    go_wp2
    go_ret
    exact ⟨ret_string (Pm.cut_one n h1), rfl⟩
  · go_enter Tryz.func116, Tryz.ntmps116
    go_wp2
    go_ret
    exact ⟨ret_string (Pm.cut_two' n h (by omega) _ _ (by omega) (by omega)), rfl⟩

set_option maxRecDepth 4000 in
set_option maxHeartbeats 400000 in
theorem formatInt_any (n : Nat) (h : n < 33) (w : World) :
    Calls Tryz.prog 95 #[.int .i64 n, .int .i64 10] w fun e w' => e = .returned (.string ⟨(Pm.itoaL n).toArray⟩) ∧ w' = w := by
  go_enter Tryz.func95, Tryz.ntmps95
  go_wp2_with (go_at_call 116; refine (small_any n h _).mono ?_; rintro e w' ⟨rfl, rfl⟩)
  go_ret
  exact ⟨rfl, rfl⟩

set_option maxRecDepth 4000 in
set_option maxHeartbeats 400000 in
theorem itoa_any (n : Nat) (h : n < 33) (w : World) :
    Calls Tryz.prog 41 #[.int .i64 n] w fun e w' => e = .returned (.string ⟨(Pm.itoaL n).toArray⟩) ∧ w' = w := by
  go_enter Tryz.func41, Tryz.ntmps41
  go_wp2_with (first | (go_at_call 95; refine (formatInt_any n h _).mono ?_; rintro e w' ⟨rfl, rfl⟩) | go_in)
  go_ret
  exact ⟨rfl, rfl⟩

end Go.Proofs.YtljfiefobnncaabGreatDoor

/- IsOne and Good: is it a bitmap? -/
namespace Go.Proofs.YtljfiefobnncaabGreatDoor
open Go.RowKit

set_option maxRecDepth 4000 in
set_option maxHeartbeats 400000 in
theorem isOne_any (W H : Int) (s : ByteArray) (w : World) :
    Calls Tryz.prog 65 #[.agg #[.int .i64 W, .int .i64 H, .string s]] w fun e w' => e = .returned (.bool (Pm.goodB W H s.data.toList)) ∧ w' = w.alloc (.cells #[.int .i64 W, .int .i64 H, .string s] 30) := by
  cases hw : Pm.sideB W
  · go_enter Tryz.func65, Tryz.ntmps65
    go_wp2_with (go_at_call 83; refine (isSide_any _ _).mono ?_; rintro e w' ⟨rfl, rfl⟩)
    go_ret
    exact ⟨ret_bool (Pm.goodB_w hw).symm, rfl⟩
  · cases hh : Pm.sideB H
    · go_enter Tryz.func65, Tryz.ntmps65
      go_wp2_with (go_at_call 83; refine (isSide_any _ _).mono ?_; rintro e w' ⟨rfl, rfl⟩)
      go_ret
      exact ⟨ret_bool (Pm.goodB_h hh).symm, rfl⟩
    · have bw := Pm.sideB_bounds hw
      have bh := Pm.sideB_bounds hh
      have bm := Pm.area_le bw.1 bw.2 bh.1 bh.2
      by_cases hl : (s.size : Int) = W * H
      · have hb : ((s.size : Int) != W * H) = false := by simp [hl]
        have hsz : (s.size : Int) ≤ 1024 := by omega
        have HL : Hid ((s.size : Int) = W * H) := hl
        clear hl
        go_enter Tryz.func65, Tryz.ntmps65
        go_wp2_with (go_at_call 83; refine (isSide_any _ _).mono ?_; rintro e w' ⟨rfl, rfl⟩)
        go_loop [3] (fun i => ∃ k : Nat, k ≤ s.size ∧ i = .int .i64 k ∧ Hid ((s.data.toList.take k).all Pm.okPix = true)) (fun i => s.size - (intOf i).toNat)
        case atStart => exact ⟨0, Nat.zero_le _, rfl, rfl⟩
        case round =>
          obtain ⟨k, hk, rfl, hall⟩ := hrel
          by_cases hlt : k < s.size
          · by_cases h0 : (s[k].toNat : Int) = 48
            · go_wp2
              go_round
              case rel => exact ⟨k + 1, by omega, by go_num, Pm.all_step s k hlt hall (.inl h0)⟩
              case measure => simp [intOf]; omega
            · by_cases h1 : (s[k].toNat : Int) = 49
              · go_wp2
                go_round
                case rel => exact ⟨k + 1, by omega, by go_num, Pm.all_step s k hlt hall (.inr h1)⟩
                case measure => simp [intOf]; omega
              · have b0 : ((s[k].toNat : Int) != 48) = true := bne_iff_ne.2 h0
                have b1 : ((s[k].toNat : Int) != 49) = true := bne_iff_ne.2 h1
                go_wp2
                go_ret
                exact ⟨ret_bool (Pm.goodB_bad s k hlt h0 h1).symm, rfl⟩
          · go_wp2
            go_ret
            exact ⟨ret_bool (Pm.goodB_yes hw hh HL.out (by have := hall.out; rwa [List.take_of_length_le (by simp; omega)] at this)).symm, rfl⟩
      · have hb : ((s.size : Int) != W * H) = true := by simp [hl]
        go_enter Tryz.func65, Tryz.ntmps65
        go_wp2_with (go_at_call 83; refine (isSide_any _ _).mono ?_; rintro e w' ⟨rfl, rfl⟩)
        go_ret
        exact ⟨ret_bool (Pm.goodB_len hl).symm, rfl⟩

set_option maxRecDepth 4000 in
set_option maxHeartbeats 1000000 in
theorem good_any (W H : Int) (s : ByteArray) (w : World) :
    Calls Tryz.prog 40 #[.agg #[.int .i64 W, .int .i64 H, .string s]] w fun e w' => e = .returned (.bool (Pm.goodB W H s.data.toList)) ∧ w' = w.alloc (.cells #[.int .i64 W, .int .i64 H, .string s] 30) := by
  by_cases w1 : W < 1
  · go_enter Tryz.func40, Tryz.ntmps40
    go_wp2
    go_ret
    exact ⟨ret_bool (Pm.goodB_w (Pm.sideB_low (by omega))).symm, rfl⟩
  by_cases h1 : H < 1
  · go_enter Tryz.func40, Tryz.ntmps40
    go_wp2
    go_ret
    exact ⟨ret_bool (Pm.goodB_h (Pm.sideB_low (by omega))).symm, rfl⟩
  by_cases w2 : 32 < W
  · go_enter Tryz.func40, Tryz.ntmps40
    go_wp2
    go_ret
    exact ⟨ret_bool (Pm.goodB_w (Pm.sideB_high (by omega))).symm, rfl⟩
  by_cases h2 : 32 < H
  · go_enter Tryz.func40, Tryz.ntmps40
    go_wp2
    go_ret
    exact ⟨ret_bool (Pm.goodB_h (Pm.sideB_high (by omega))).symm, rfl⟩
  have bm := Pm.area_le (w := W) (h := H) (by omega) (by omega) (by omega) (by omega)
  by_cases hl : (s.size : Int) = W * H
  · have hb : ((s.size : Int) != W * H) = false := by simp [hl]
    have hsz : (s.size : Int) ≤ 1024 := by omega
    have HL : Hid ((s.size : Int) = W * H) := hl
    clear hl
    go_enter Tryz.func40, Tryz.ntmps40
    go_wp2
    go_loop [3] (fun i => ∃ k : Nat, k ≤ s.size ∧ i = .int .i64 k ∧ Hid ((s.data.toList.take k).all Pm.okPix = true)) (fun i => s.size - (intOf i).toNat)
    case atStart => exact ⟨0, Nat.zero_le _, rfl, rfl⟩
    case round =>
      obtain ⟨k, hk, rfl, hall⟩ := hrel
      by_cases hlt : k < s.size
      · by_cases q1 : (s[k].toNat : Int) = 49
        · go_wp2
          go_round
          case rel => exact ⟨k + 1, by omega, by go_num, Pm.all_step s k hlt hall (.inr q1)⟩
          case measure => simp [intOf]; omega
        · by_cases q0 : (s[k].toNat : Int) = 48
          · go_wp2
            go_round
            case rel => exact ⟨k + 1, by omega, by go_num, Pm.all_step s k hlt hall (.inl q0)⟩
            case measure => simp [intOf]; omega
          · have b0 : ((s[k].toNat : Int) != 48) = true := bne_iff_ne.2 q0
            have b1 : ((s[k].toNat : Int) != 49) = true := bne_iff_ne.2 q1
            go_wp2
            go_ret
            exact ⟨ret_bool (Pm.goodB_bad s k hlt q0 q1).symm, rfl⟩
      · go_wp2
        go_ret
        exact ⟨ret_bool (Pm.goodB_yes (Pm.sideB_yes (by omega) (by omega)) (Pm.sideB_yes (by omega) (by omega)) HL.out (by have := hall.out; rwa [List.take_of_length_le (by simp; omega)] at this)).symm, rfl⟩
  · have hb : ((s.size : Int) != W * H) = true := by simp [hl]
    go_enter Tryz.func40, Tryz.ntmps40
    go_wp2
    go_ret
    exact ⟨ret_bool (Pm.goodB_len hl).symm, rfl⟩
end Go.Proofs.YtljfiefobnncaabGreatDoor

/- packByte, packRow. -/
namespace Go.Proofs.YtljfiefobnncaabGreatDoor
open Go.RowKit

set_option maxRecDepth 4000 in
set_option maxHeartbeats 400000 in
theorem packByte_any (s : ByteArray) (n : Nat) (hs : s.size ≤ 1024) (hn : n ≤ 1024) (w : World) :
    Calls Tryz.prog 94 #[.string s, .int .i64 n] w fun e w' => e = .returned (.int .u8 (Pm.byteAt s.data.toList n).toNat) ∧ w' = w := by
  go_enter Tryz.func94, Tryz.ntmps94
  go_wp2
  go_loop [5, 6] (fun v x => ∃ k : Nat, k ≤ 8 ∧ x = .int .i64 (n + k : Nat) ∧ v = .int .u8 (Pm.packV (fun i => Pm.bitAt s.data.toList (n + i)) k : Nat)) (fun _ x => n + 8 - (intOf x).toNat)
  case atStart => exact ⟨0, Nat.zero_le _, rfl, rfl⟩
  case round =>
    obtain ⟨k, hk, rfl, rfl⟩ := hrel
    by_cases hlt : k < 8
    · have hv := Pm.packV_le' (fun i => Pm.bitAt s.data.toList (n + i)) k hlt
      by_cases hi : n + k < s.size
      · by_cases h1 : (s[n + k].toNat : Int) = 49
        · have e := Pm.packV_yes (fun i => Pm.bitAt s.data.toList (n + i)) k (Pm.bitAt_yes s _ hi h1)
          have E : Hid _ := e
          clear e
          go_wp2
          go_round
          case rel => exact ⟨k + 1, by omega, by go_num, by rw [E.out]; go_num⟩
          case measure => simp [intOf]; omega
        · have e := Pm.packV_no (fun i => Pm.bitAt s.data.toList (n + i)) k (Pm.bitAt_no s _ hi h1)
          have E : Hid _ := e
          clear e
          go_wp2
          go_round
          case rel => exact ⟨k + 1, by omega, by go_num, by rw [E.out]; go_num⟩
          case measure => simp [intOf]; omega
      · have e := Pm.packV_no (fun i => Pm.bitAt s.data.toList (n + i)) k (Pm.bitAt_out s _ hi)
        have E : Hid _ := e
        clear e
        go_wp2
        go_round
        case rel => exact ⟨k + 1, by omega, by go_num, by rw [E.out]; go_num⟩
        case measure => simp [intOf]; omega
    · go_wp2
      go_ret
      exact ⟨ret_int (by rw [Pm.byteAt_toNat, show k = 8 from by omega]), rfl⟩

theorem infoByte : (Tryz.prog.info? 5).map (fun i => (i.zero, i.size, i.bytes)) = some (some (.int .u8 0), 1, 1) := by kernel_rfl
def cellsOf (l : List UInt8) : List Value := l.map fun b => .int .u8 b.toNat
theorem cellsOf_snoc (l : List UInt8) (b : UInt8) : cellsOf (l ++ [b]) = cellsOf l ++ [.int .u8 b.toNat] := by simp [cellsOf]
theorem hid {p : Prop} (h : p) : Hid p := h

set_option maxRecDepth 4000 in
set_option maxHeartbeats 400000 in
theorem packRow_any (s : ByteArray) (h0 : 1 ≤ s.size) (hs : s.size ≤ 1024) (w : World) :
    Calls Tryz.prog 66 #[.string s] w fun e w' => e = .returned (.string ⟨(Pm.packRow s.data.toList).toArray⟩) ∧ Below w.heap.size w w' := by
  obtain ⟨i0, hi, hz0, hz1, hz2⟩ := info_parts infoByte
  go_enter Tryz.func66, Tryz.ntmps66
  go_wp2
  go_loopw [3, 4] (fun v x wr => ∃ m : Nat, 8 * m ≤ s.size + 7 ∧ x = .int .i64 (8 * m : Nat) ∧ wr.ownsRow w.heap.size 5 1 v m (cellsOf (Pm.packTo s.data.toList m)) ∧ Below w.heap.size w wr) (fun _ x _ => s.size + 8 - (intOf x).toNat)
  case atStart => exact ⟨0, by omega, rfl, World.ownsRow_nil _ _ _ _, Below.refl _ _⟩
  case round =>
    obtain ⟨m, hm, rfl, hown, hnx⟩ := hrel
    have hsz := hnx.size
    by_cases hlt : 8 * m < s.size
    · go_wp2_with (first
        | (go_at_call 94; refine (packByte_any s (8 * m) hs (by omega) _).mono ?_; rintro e w' ⟨rfl, rfl⟩)
        | (at_builtin; refine wpList_append_own _ rfl _ _ 79 rfl w.heap.size 5 i0 (.int .u8 0) 1 1 Tryz.underlying79 hi hz0 hz1 hz2 rfl (by decide) _ _ _ rfl (hown.alloc _) ⟨_, 0, none⟩ 1 1 [.int .u8 (Pm.byteAt s.data.toList (8 * m)).toNat] rfl rfl ?c1 ?c2 ?c3 ?c4 ?c5 ?_))
      case c1 =>
        intro j u hj
        match j, hj with
        | 0, hj => simp at hj; subst hj; simp [Addr.add]
      case c2 => intro u hu; simp at hu; subst hu; rfl
      case c3 => unfold maxLen; omega
      case c4 => omega
      case c5 => simp; omega
      · intro v' w1 hown' hgrow _
        rename_i w2 _ _ _
        have hb : Below w.heap.size w w1 := (hnx.alloc (by omega) _).grown hgrow (by simp; omega) (fun k hk => (hown.lt k hk).1)
        have ho : w1.ownsRow w.heap.size 5 1 v' (m + 1) (cellsOf (Pm.packTo s.data.toList (m + 1))) := by rw [Pm.packTo_succ, cellsOf_snoc]; exact hown'
        clear hown' hgrow hown
        go_wp2
        go_roundw
        case rel => exact ⟨m + 1, by omega, by go_num, ho, hb⟩
        case measure => simp [intOf]; omega
    · have hm1 : 0 < m := by omega
      have e : Hid (m = (s.data.toList.length + 7) / 8) := by show _ = _; simp only [Array.length_toList]; show m = (s.size + 7) / 8; omega
      obtain ⟨l, hl⟩ : ∃ l, l = Pm.packTo s.data.toList m := ⟨_, rfl⟩
      have hll : l.length = m := by rw [hl, Pm.packTo_length]
      rw [← hl] at hown
      have HL := hid hl
      clear hl
      rcases hown.2 with ⟨-, h0⟩ | ⟨g, cap, cur, rfl, -, -, -, -, -, -⟩
      · omega
      · subst hll
        have hcv := run_convert_bytes_back (P := Tryz.prog) wr 79 9 5 ⟨g, 0, none⟩ cap l Tryz.underlying79 Tryz.underlying5 Tryz.underlying9 (fun j hj => hown.cells (g := g) rfl j _ (by simp [cellsOf, hj]))
        go_wp2
        go_ret
        refine ⟨ret_string ?_, hnx⟩
        rw [HL.out, e.out]; rfl
end Go.Proofs.YtljfiefobnncaabGreatDoor

/- Plain facts on whole files. -/
namespace Go.Proofs.YtljfiefobnncaabGreatDoor.Pm
theorem itoaL_len (n : Nat) : 1 ≤ (itoaL n).length ∧ (itoaL n).length ≤ 2 := by unfold itoaL; split <;> simp
/-- What stands ahead of the pixels. -/
def headL (w h : Nat) : List UInt8 := [80, 52, 10] ++ itoaL w ++ [32] ++ itoaL h ++ [10]
/-- Row y of the pixels. -/
def rowOf (l : List UInt8) (w y : Nat) : List UInt8 := (l.drop (y * w)).take w
/-- The file as far as its first y rows. -/
def writeTo (w h : Nat) (l : List UInt8) (y : Nat) : List UInt8 := headL w h ++ (List.range y).flatMap fun y => packRow (rowOf l w y)
theorem writeTo_succ (w h : Nat) (l : List UInt8) (y : Nat) : writeTo w h l (y + 1) = writeTo w h l y ++ packRow (rowOf l w y) := by
  simp [writeTo, List.range_succ]
theorem rowOf_len (l : List UInt8) (w h y : Nat) (hl : l.length = w * h) (hy : y < h) : (rowOf l w y).length = w := by
  have : (y + 1) * w ≤ w * h := by rw [Nat.mul_comm w h]; exact Nat.mul_le_mul_right _ hy
  rw [Nat.add_mul] at this
  simp only [rowOf, List.length_take, List.length_drop]; omega
theorem packRow_len (l : List UInt8) : (packRow l).length = (l.length + 7) / 8 := by simp [packRow, packTo_length]
theorem extract_row (s : ByteArray) (w y a b : Nat) (ha : a = y * w) (hb : b = (y + 1) * w) : (s.extract a b).data.toList = rowOf s.data.toList w y := by
  subst ha hb
  simp only [ByteArray.data_extract, Array.toList_extract, List.extract_eq_take_drop, rowOf]
  congr 1
  rw [Nat.add_mul]; omega
theorem span (w h y : Nat) (hy : y < h) : (y + 1) * w ≤ w * h ∧ y * w + w = (y + 1) * w := by
  refine ⟨?_, by rw [Nat.add_mul]; omega⟩
  rw [Nat.mul_comm w h]; exact Nat.mul_le_mul_right _ hy
theorem area_nat (w h : Nat) (h1 : w ≤ 32) (h2 : h ≤ 32) : w * h ≤ 1024 := Nat.mul_le_mul h1 h2
theorem head_data (w h : Nat) {l : List UInt8} : ((⟨#[80, 52, 10]⟩ : ByteArray) ++ ⟨(itoaL w).toArray⟩ ++ ⟨#[32]⟩ ++ ⟨(itoaL h).toArray⟩ ++ ⟨#[10]⟩).data.toList = writeTo w h l 0 := by
  simp [writeTo, headL]
theorem head_size (w h : Nat) : ((⟨#[80, 52, 10]⟩ : ByteArray) ++ ⟨(itoaL w).toArray⟩ ++ ⟨#[32]⟩ ++ ⟨(itoaL h).toArray⟩ ++ ⟨#[10]⟩).size ≤ 20 + 4 * 0 := by
  have := itoaL_len w
  have := itoaL_len h
  simp only [ByteArray.size_append]
  show 3 + (itoaL w).length + 1 + (itoaL h).length + 1 ≤ _
  omega
theorem step_data (F : ByteArray) (w h y : Nat) (l : List UInt8) (hF : F.data.toList = writeTo w h l y) : (F ++ ⟨(packRow (rowOf l w y)).toArray⟩).data.toList = writeTo w h l (y + 1) := by
  rw [writeTo_succ, ← hF]; simp
theorem step_size (F : ByteArray) (p : List UInt8) (n : Nat) (h : F.size ≤ 20 + 4 * n) (hp : p.length ≤ 4) : (F ++ ⟨p.toArray⟩).size ≤ 20 + 4 * (n + 1) := by
  simp only [ByteArray.size_append]
  show F.size + p.length ≤ _
  omega
theorem of_data (F : ByteArray) (l : List UInt8) (h : F.data.toList = l) : F = ⟨l.toArray⟩ := by subst h; simp
/-- Is the pixel black? -/
def blackB (w h : Nat) (l : List UInt8) (x y : Int) : Bool := decide (0 ≤ x ∧ 0 ≤ y ∧ x < w ∧ y < h) && bitAt l (y * w + x).toNat
theorem blackB_out (w h : Nat) (l : List UInt8) (x y : Int) (hx : ¬ (0 ≤ x ∧ 0 ≤ y ∧ x < w ∧ y < h)) : blackB w h l x y = false := by simp only [blackB, decide_eq_false hx, Bool.false_and]
theorem blackB_in (w h : Nat) (l : List UInt8) (x y : Nat) (hx : x < w) (hy : y < h) (a : Nat) (ha : a = y * w) : blackB w h l x y = bitAt l (a + x) := by
  have : decide ((0 : Int) ≤ x ∧ (0 : Int) ≤ y ∧ (x : Int) < w ∧ (y : Int) < h) = true := decide_eq_true (by omega)
  simp only [blackB, this, Bool.true_and]
  congr 1
  subst ha
  have e : (y : Int) * (w : Int) + (x : Int) = ((y * w + x : Nat) : Int) := by simp
  rw [e, Int.toNat_natCast]
theorem black_row (w h : Nat) (l : List UInt8) (x y : Nat) (hy : y < h) : bitAt (rowOf l w y) x = blackB w h l x y := by
  by_cases hx : x < w
  · rw [blackB_in w h l x y hx hy _ rfl]
    simp only [bitAt, rowOf, List.getElem?_take, if_pos hx, List.getElem?_drop]
  · rw [blackB_out w h l x y (by omega)]
    simp only [bitAt, rowOf, List.getElem?_take, if_neg hx]; rfl
/-- The first k pixels of byte m of row y, as a number. -/
def colV (w h : Nat) (l : List UInt8) (m y k : Nat) : Nat := packV (fun i => blackB w h l (8 * (m : Int) + (i : Nat)) y) k
theorem colV_lt (w h : Nat) (l : List UInt8) (m y k : Nat) (hk : k < 8) : colV w h l m y k ≤ 127 := packV_le' _ k hk
theorem colV_le (w h : Nat) (l : List UInt8) (m y k : Nat) (hk : k ≤ 8) : colV w h l m y k ≤ 255 := packV_le _ k hk
theorem colV_yes (w h : Nat) (l : List UInt8) (m y k : Nat) (hb : blackB w h l (8 * (m : Int) + (k : Nat)) y = true) : colV w h l m y (k + 1) = 2 * colV w h l m y k + 1 := packV_yes _ k hb
theorem colV_no (w h : Nat) (l : List UInt8) (m y k : Nat) (hb : blackB w h l (8 * (m : Int) + (k : Nat)) y = false) : colV w h l m y (k + 1) = 2 * colV w h l m y k := packV_no _ k hb
theorem byte_row (w h : Nat) (l : List UInt8) (m y : Nat) (hy : y < h) : colV w h l m y 8 = (byteAt (rowOf l w y) (8 * m)).toNat := by
  rw [byteAt_toNat, colV]
  apply packV_congr
  intro i _
  rw [black_row w h l (8 * m + i) y hy]
  simp
theorem mid_data (G : ByteArray) (p r : List UInt8) (m : Nat) (h : G.data.toList = p ++ packTo r m) : (G ++ ⟨#[byteAt r (8 * m)]⟩).data.toList = p ++ packTo r (m + 1) := by
  simp [packTo_succ, h]
theorem mid_end (w h : Nat) (l : List UInt8) (y m : Nat) (hl : l.length = w * h) (hy : y < h) (h1 : 8 * m ≤ w + 7) (h2 : w ≤ 8 * m) : writeTo w h l y ++ packTo (rowOf l w y) m = writeTo w h l (y + 1) := by
  rw [writeTo_succ, packRow, rowOf_len l w h y hl hy, show m = (w + 7) / 8 from by omega]
theorem one_size (G : ByteArray) (b : UInt8) (n : Nat) (h : G.size ≤ n) : (G ++ ⟨#[b]⟩).size ≤ n + 1 := by
  simp only [ByteArray.size_append]
  show G.size + 1 ≤ _
  omega
theorem goodB_parts {w h : Int} {l : List UInt8} (hg : goodB w h l = true) : ∃ a b : Nat, w = (a : Int) ∧ h = (b : Int) ∧ 1 ≤ a ∧ a ≤ 32 ∧ 1 ≤ b ∧ b ≤ 32 ∧ l.length = a * b := by
  simp only [goodB, Bool.and_eq_true, decide_eq_true_eq] at hg
  obtain ⟨⟨⟨h1, h2⟩, h3⟩, -⟩ := hg
  have b1 := sideB_bounds h1
  have b2 := sideB_bounds h2
  obtain ⟨a, rfl⟩ := Int.eq_ofNat_of_zero_le (show 0 ≤ w by omega)
  obtain ⟨b, rfl⟩ := Int.eq_ofNat_of_zero_le (show 0 ≤ h by omega)
  refine ⟨a, b, rfl, rfl, by omega, by omega, by omega, by omega, ?_⟩
  rw [← Int.natCast_mul] at h3
  exact Int.ofNat.inj h3
end Go.Proofs.YtljfiefobnncaabGreatDoor.Pm

/- outlineref.Black. -/
namespace Go.Proofs.YtljfiefobnncaabGreatDoor
open Go.RowKit

set_option maxRecDepth 4000 in
set_option maxHeartbeats 1000000 in
theorem black_any (W H : Nat) (s : ByteArray) (x y : Int) (w : World) (hw2 : W ≤ 32) (hh2 : H ≤ 32) (hl : s.size = W * H) :
    Calls Tryz.prog 42 #[.agg #[.int .i64 W, .int .i64 H, .string s], .int .i64 x, .int .i64 y] w fun e w' => e = .returned (.bool (Pm.blackB W H s.data.toList x y)) ∧ w' = w.alloc (.cells #[.int .i64 W, .int .i64 H, .string s] 30) := by
  have HL := Hid.out (p := Hid (s.size = W * H)) hl
  clear hl
  by_cases x0 : 0 ≤ x
  · by_cases y0 : 0 ≤ y
    · by_cases x1 : x < W
      · by_cases y1 : y < H
        · obtain ⟨x, rfl⟩ := Int.eq_ofNat_of_zero_le x0
          obtain ⟨y, rfl⟩ := Int.eq_ofNat_of_zero_le y0
          have hx : x < W := by omega
          have hy : y < H := by omega
          have sp := Pm.span W H y hy
          have ar := Pm.area_nat W H hw2 hh2
          obtain ⟨a, ha⟩ : ∃ a, a = y * W := ⟨_, rfl⟩
          have ea : (y : Int) * (W : Int) = (a : Nat) := by rw [ha]; simp
          have hab : a + x < s.size := by have := HL.out; omega
          have hb4 : a + x ≤ 1024 := by omega
          have E := Pm.blackB_in W H s.data.toList x y hx hy a ha
          have HE : Hid _ := E
          have HA : Hid _ := ha
          clear E ha sp ar
          by_cases q : (s[a + x].toNat : Int) = 49
          · go_enter Tryz.func42, Tryz.ntmps42
            go_wp2
            go_ret
            exact ⟨ret_bool (by rw [HE.out, Pm.bitAt_yes s _ hab q]), rfl⟩
          · have b0 : ((s[a + x].toNat : Int) == 49) = false := by simpa using q
            go_enter Tryz.func42, Tryz.ntmps42
            go_wp2
            go_ret
            exact ⟨ret_bool (by rw [HE.out, Pm.bitAt_no s _ hab q]), rfl⟩
        · have E := Pm.blackB_out W H s.data.toList x y (by omega)
          have HE : Hid _ := E
          clear E
          go_enter Tryz.func42, Tryz.ntmps42
          go_wp2
          go_ret
          exact ⟨ret_bool HE.out.symm, rfl⟩
      · have E := Pm.blackB_out W H s.data.toList x y (by omega)
        have HE : Hid _ := E
        clear E
        go_enter Tryz.func42, Tryz.ntmps42
        go_wp2
        go_ret
        exact ⟨ret_bool HE.out.symm, rfl⟩
    · have E := Pm.blackB_out W H s.data.toList x y (by omega)
      have HE : Hid _ := E
      clear E
      go_enter Tryz.func42, Tryz.ntmps42
      go_wp2
      go_ret
      exact ⟨ret_bool HE.out.symm, rfl⟩
  · have E := Pm.blackB_out W H s.data.toList x y (by omega)
    have HE : Hid _ := E
    clear E
    go_enter Tryz.func42, Tryz.ntmps42
    go_wp2
    go_ret
    exact ⟨ret_bool HE.out.symm, rfl⟩
end Go.Proofs.YtljfiefobnncaabGreatDoor

/- outlineref.Write. -/
namespace Go.Proofs.YtljfiefobnncaabGreatDoor
open Go.RowKit

set_option maxRecDepth 4000 in
set_option maxHeartbeats 400000 in
theorem refWrite_no (W H : Int) (s : ByteArray) (w : World) (hg : Pm.goodB W H s.data.toList = false) :
    Calls Tryz.prog 18 #[.agg #[.int .i64 W, .int .i64 H, .string s]] w fun e w' => e = .returned (.tuple #[.string ⟨#[]⟩, .int .i64 4]) ∧ Below w.heap.size w w' := by
  go_enter Tryz.func18, Tryz.ntmps18
  go_wp2_with (go_at_call 40; refine (good_any W H s _).mono ?_; rintro e w' ⟨rfl, rfl⟩; rw [hg])
  go_ret2
  exact ⟨rfl, ((Below.refl _ _).alloc (Nat.le_refl _) _).alloc (by simp) _⟩

/-- The box of a bitmap at block B stands; below it all is as it was. -/
def Inb (B : Nat) (W H : Nat) (s : ByteArray) (w wr : World) : Prop :=
  wr.cell? ⟨B, 0, none⟩ = some (.int .i64 W) ∧ wr.cell? ⟨B, 1, none⟩ = some (.int .i64 H) ∧ wr.cell? ⟨B, 2, none⟩ = some (.string s) ∧ Below B w wr ∧ B < wr.heap.size
theorem Inb.on {B W H : Nat} {s : ByteArray} {w wr w2 : World} (h : Inb B W H s w wr) (hb : Below wr.heap.size wr w2) : Inb B W H s w w2 := by
  obtain ⟨c0, c1, c2, hn, hz⟩ := h
  exact ⟨(hb.cell (p := ⟨B, 0, none⟩) hz).trans c0, (hb.cell (p := ⟨B, 1, none⟩) hz).trans c1, (hb.cell (p := ⟨B, 2, none⟩) hz).trans c2, hn.trans (hb.mono (Nat.le_of_lt hz)), Nat.lt_of_lt_of_le hz hb.size⟩
theorem Inb.alloc {B W H : Nat} {s : ByteArray} {w wr : World} (h : Inb B W H s w wr) (o : Obj) : Inb B W H s w (wr.alloc o) :=
  h.on ((Below.refl _ _).alloc (Nat.le_refl _) _)

/-- 'string([]byte{b})'. -/
theorem one_byte (b : UInt8) (v : Int) (hv : v = (b.toNat : Int)) (wx : World) :
    Sem.run Tryz.prog (convert 79 9 (.slice (some ⟨wx.heap.size, 0, none⟩) 1 1)) (wx.alloc (.cells #[.int .u8 v] 5)) = .ok (.string ⟨#[b]⟩) (wx.alloc (.cells #[.int .u8 v] 5)) := by
  subst hv
  refine run_convert_bytes_back (P := Tryz.prog) (wx.alloc (.cells #[.int .u8 (b.toNat : Int)] 5)) 79 9 5 ⟨wx.heap.size, 0, none⟩ 1 [b] Tryz.underlying79 Tryz.underlying5 Tryz.underlying9 (fun j hj => ?_)
  match j, hj with
  | 0, _ => simp [Addr.add]

set_option maxRecDepth 4000 in
set_option maxHeartbeats 1000000 in
theorem refWrite_yes (W H : Nat) (s : ByteArray) (w : World) (hw1 : 1 ≤ W) (hw2 : W ≤ 32) (hh1 : 1 ≤ H) (hh2 : H ≤ 32) (hl : s.size = W * H) (hg : Pm.goodB W H s.data.toList = true) :
    Calls Tryz.prog 18 #[.agg #[.int .i64 W, .int .i64 H, .string s]] w fun e w' => e = .returned (.tuple #[.string ⟨(Pm.writeTo W H s.data.toList H).toArray⟩, .int .i64 0]) ∧ Below w.heap.size w w' := by
  have HL := hid hl
  have hg2 := hid hg
  clear hl hg
  have iw := Pm.itoaL_len W
  have ih := Pm.itoaL_len H
  go_enter Tryz.func18, Tryz.ntmps18
  go_wp2_with (go_at_call 40; refine (good_any W H s _).mono ?_; rintro e w' ⟨rfl, rfl⟩; rw [hg2.out])
  go_quiet ((first | (go_at_call_of 41 (Value.int .i64 (W : Nat)); exact Calls.quiet_of_same (itoa_any W (by omega) _)) | (go_at_call_of 41 (Value.int .i64 (H : Nat)); exact Calls.quiet_of_same (itoa_any H (by omega) _))))
  go_wp2
  go_loopw [5, 6] (fun f i wr => ∃ (y : Nat) (F : ByteArray), y ≤ H ∧ i = .int .i64 y ∧ f = .string F ∧ Hid (F.data.toList = Pm.writeTo W H s.data.toList y) ∧ F.size ≤ 20 + 8 * y ∧ Inb w.heap.size W H s w wr) (fun _ i _ => H - (intOf i).toNat)
  case atStart => exact ⟨0, _, by omega, rfl, rfl, Pm.head_data W H, Pm.head_size W H, by simp, by simp, by simp, (((Below.refl _ _).alloc (Nat.le_refl _) _).alloc (by simp) _).trans ⟨rfl, rfl, rfl, Nat.le_refl _, fun _ _ => rfl⟩, by simp; omega⟩
  case round =>
    obtain ⟨y, F, hy, rfl, rfl, hF, hFs, c0, c1, c2, hnx, hsz⟩ := hrel
    by_cases hlt : y < H
    · go_wp2
      go_loopw [5, 7] (fun f i wr => ∃ (m : Nat) (G : ByteArray), 8 * m ≤ W + 7 ∧ i = .int .i64 (8 * (m : Int)) ∧ f = .string G ∧ Hid (G.data.toList = Pm.writeTo W H s.data.toList y ++ Pm.packTo (Pm.rowOf s.data.toList W y) m) ∧ G.size ≤ 20 + 8 * y + m ∧ Inb w.heap.size W H s w wr) (fun _ i _ => W + 8 - (intOf i).toNat)
      case atStart => exact ⟨0, _, by omega, rfl, rfl, by show _ = _; simpa [Pm.packTo] using hF.out, by omega, c0, c1, c2, hnx, hsz⟩
      case round =>
        clear c0 c1 c2 hnx hsz
        obtain ⟨m, G, hm, rfl, rfl, hG, hGs, c0, c1, c2, hnx, hsz⟩ := hrel
        by_cases hx : 8 * m < W
        · have hx' : 8 * (m : Int) < (W : Int) := by omega
          go_wp2
          go_loopw [8, 9] (fun v i wr => ∃ (k : Nat), k ≤ 8 ∧ i = .int .i64 k ∧ v = .int .i64 (Pm.colV W H s.data.toList m y k : Nat) ∧ Inb w.heap.size W H s w wr) (fun _ i _ => 8 - (intOf i).toNat)
          case atStart => exact ⟨0, by omega, rfl, rfl, c0, c1, c2, hnx, hsz⟩
          case round =>
            clear c0 c1 c2 hnx hsz
            obtain ⟨k, hk, rfl, rfl, c0, c1, c2, hnx, hsz⟩ := hrel
            by_cases hk8 : k < 8
            · have hc := Pm.colV_lt W H s.data.toList m y k hk8
              cases hq : Pm.blackB W H s.data.toList (8 * (m : Int) + (k : Nat)) y
              · have E := hid (Pm.colV_no W H s.data.toList m y k hq)
                go_wp2_with (go_at_call 42; refine (black_any W H s _ _ _ hw2 hh2 HL.out).mono ?_; rintro e w2 ⟨rfl, rfl⟩; rw [hq])
                go_roundw
                case rel => exact ⟨k + 1, by omega, by go_num, by rw [E.out]; go_num, Inb.alloc ⟨c0, c1, c2, hnx, hsz⟩ _⟩
                case measure => simp [intOf]; omega
              · have E := hid (Pm.colV_yes W H s.data.toList m y k hq)
                go_wp2_with (go_at_call 42; refine (black_any W H s _ _ _ hw2 hh2 HL.out).mono ?_; rintro e w2 ⟨rfl, rfl⟩; rw [hq])
                go_roundw
                case rel => exact ⟨k + 1, by omega, by go_num, by rw [E.out]; go_num, Inb.alloc ⟨c0, c1, c2, hnx, hsz⟩ _⟩
                case measure => simp [intOf]; omega
            · obtain rfl : k = 8 := by omega
              have hc := Pm.byte_row W H s.data.toList m y hlt
              have hcv := one_byte (Pm.byteAt (Pm.rowOf s.data.toList W y) (8 * m)) ((Pm.colV W H s.data.toList m y 8 : Int) % 256) (by have := Pm.colV_le W H s.data.toList m y 8 (by omega); omega) wr
              have D := hid (Pm.mid_data G _ _ m hG.out)
              clear hc
              go_wp2
              go_roundw
              case rel => exact ⟨m + 1, _, by omega, by go_num, rfl, D, Pm.one_size G _ _ hGs, Inb.alloc ⟨c0, c1, c2, hnx, hsz⟩ _⟩
              case measure => simp [intOf]; omega
        · have e := hid (Pm.mid_end W H s.data.toList y m (by simpa using HL.out) hlt hm (by omega))
          go_wp2
          go_roundw
          case rel => exact ⟨y + 1, G, by omega, by go_num, rfl, hG.out.trans e.out, by omega, c0, c1, c2, hnx, hsz⟩
          case measure => simp [intOf]; omega
    · go_wp2
      go_ret2
      refine ⟨?_, hnx⟩
      rw [Pm.of_data F _ hF.out, show y = H from by omega]; rfl
end Go.Proofs.YtljfiefobnncaabGreatDoor
