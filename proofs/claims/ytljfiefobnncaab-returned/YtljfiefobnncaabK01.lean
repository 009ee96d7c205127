import Derived.Test.YtljfiefobnncaabRows
import Derived.WalkKit
import Derived.WalkSpells
import Derived.WalkLawsBesides
import Derived.ProofKit
import Derived.OpenShut
import Derived.Lib.SmallJoins

/- What every closing on a plain seat wants: how a bitmap and options come in. -/
namespace Go.Proofs.Ytljfiefobnncaab
open Go.ChangeShapes Go.WideShapes Go.ChangeAt Go.RowKit Go.Joins
open Go.ChangeMaps (open_string)

theorem own : ownKnob Try.prog.godebug = none := by kernel_rfl
theorem laidOut : laidOutB Try.prog = true := by kernel_rfl
theorem cellsBitmap : Try.prog.cellsOf 25 = 3 := by kernel_rfl
theorem cellsOptions : Try.prog.cellsOf 28 = 3 := by kernel_rfl

set_option maxRecDepth 100000 in
/-- A bitmap that comes in: two numbers and a text. -/
theorem open_bitmap {H : Type} {enc : TypeId × Value → H} {W : World} {base : Nat} {v : Value} {d : DataW H} {p : List MemPlace}
    (hv : Value.okWide Try.prog W .any base 25 v) (h : DataW.Trod enc Try.prog W 0 (fun _ => true) true 25 v d p) :
    ∃ (a b : Int) (s : ByteArray), v = .agg #[.int .i64 a, .int .i64 b, .string s] := by
  obtain ⟨c0, c1, c2, y0, y1, y2, m, rfl, -, -, hy0, hy1, hy2⟩ := open_agg3 Try.underlying25 (by kernel_rfl) cellsBitmap hv h
  obtain ⟨a, e0, -, -⟩ := DataW.trod_int Try.underlying3 hy0
  obtain ⟨b, e1, -, -⟩ := DataW.trod_int Try.underlying3 hy1
  obtain ⟨s, e2, -⟩ := DataW.trod_string Try.underlying9 hy2
  simp at e0 e1 e2
  subst e0 e1 e2
  exact ⟨a, b, s, rfl⟩
set_option maxRecDepth 100000 in
/-- Options that come in: a number, a text, a number. -/
theorem open_options {H : Type} {enc : TypeId × Value → H} {W : World} {base : Nat} {v : Value} {d : DataW H} {p : List MemPlace}
    (hv : Value.okWide Try.prog W .any base 28 v) (h : DataW.Trod enc Try.prog W 0 (fun _ => true) true 28 v d p) :
    ∃ (a : Int) (s : ByteArray) (b : Int), v = .agg #[.int .i64 a, .string s, .int .i64 b] := by
  obtain ⟨c0, c1, c2, y0, y1, y2, m, rfl, -, -, hy0, hy1, hy2⟩ := open_agg3 Try.underlying28 (by kernel_rfl) cellsOptions hv h
  obtain ⟨a, e0, -, -⟩ := DataW.trod_int Try.underlying3 hy0
  obtain ⟨s, e1, -⟩ := DataW.trod_string Try.underlying9 hy1
  obtain ⟨b, e2, -, -⟩ := DataW.trod_int Try.underlying3 hy2
  simp at e0 e1 e2
  subst e0 e1 e2
  exact ⟨a, s, b, rfl⟩
end Go.Proofs.Ytljfiefobnncaab

/- Plain facts on bytes and lists for the bitmap files: nothing of the program stands here. -/
namespace Go.Proofs.Ytljfiefobnncaab.Pm

/-- May the byte stand for a pixel? -/
def okPix (c : UInt8) : Bool := c == 48 || c == 49
/-- May the number be a side? -/
def sideB (n : Int) : Bool := decide (1 ≤ n ∧ n ≤ 32)
theorem sideB_yes {n : Int} (h1 : 1 ≤ n) (h2 : n ≤ 32) : sideB n = true := decide_eq_true ⟨h1, h2⟩
theorem sideB_low {n : Int} (h1 : ¬ 1 ≤ n) : sideB n = false := decide_eq_false (by omega)
theorem sideB_high {n : Int} (h1 : ¬ n ≤ 32) : sideB n = false := decide_eq_false (by omega)
theorem sideB_bounds {n : Int} (h : sideB n = true) : 1 ≤ n ∧ n ≤ 32 := of_decide_eq_true h
theorem area_le {w h : Int} (h1 : 1 ≤ w) (h2 : w ≤ 32) (h3 : 1 ≤ h) (h4 : h ≤ 32) : 1 ≤ w * h ∧ w * h ≤ 1024 := by
  have a : 1 * 1 ≤ w * h := Int.mul_le_mul h1 h3 (by omega) (by omega)
  have b : w * h ≤ 32 * 32 := Int.mul_le_mul h2 h4 (by omega) (by omega)
  omega
/-- Are W, H, s a bitmap? -/
def goodB (w h : Int) (s : List UInt8) : Bool := sideB w && sideB h && decide ((s.length : Int) = w * h) && s.all okPix
theorem goodB_w {w h : Int} {s : List UInt8} (h1 : sideB w = false) : goodB w h s = false := by simp [goodB, h1]
theorem goodB_h {w h : Int} {s : List UInt8} (h1 : sideB h = false) : goodB w h s = false := by simp [goodB, h1]
theorem goodB_len {w h : Int} {s : List UInt8} (h1 : ¬ (s.length : Int) = w * h) : goodB w h s = false := by simp [goodB, h1]
theorem goodB_pix {w h : Int} {s : List UInt8} (k : Nat) (hk : k < s.length) (h1 : okPix s[k] = false) : goodB w h s = false := by
  have : s.all okPix = false := by
    rw [List.all_eq_false]; exact ⟨s[k], List.getElem_mem hk, by simp [h1]⟩
  simp [goodB, this]
theorem goodB_yes {w h : Int} {s : List UInt8} (h1 : sideB w = true) (h2 : sideB h = true) (h3 : (s.length : Int) = w * h) (h4 : s.all okPix = true) : goodB w h s = true := by simp [goodB, h1, h2, h3, h4]
theorem all_take_succ (s : List UInt8) (k : Nat) (hk : k < s.length) (h : (s.take k).all okPix = true) (h1 : okPix s[k] = true) : (s.take (k + 1)).all okPix = true := by
  rw [List.take_succ_eq_append_getElem hk]; simp only [List.all_append, h, List.all_cons, h1, List.all_nil, Bool.and_self]
theorem okPix_of (c : UInt8) (h : (c.toNat : Int) = 48 ∨ (c.toNat : Int) = 49) : okPix c = true := by
  have e : ∀ c : UInt8, c.toNat = 48 ∨ c.toNat = 49 → okPix c = true := by
    intro c h
    rcases h with h | h
    · have : c = 48 := UInt8.toNat_inj.1 h
      subst this; rfl
    · have : c = 49 := UInt8.toNat_inj.1 h
      subst this; rfl
  exact e c (by omega)
theorem okPix_not (c : UInt8) (h1 : ¬ (c.toNat : Int) = 48) (h2 : ¬ (c.toNat : Int) = 49) : okPix c = false := by
  have a : c ≠ 48 := fun e => h1 (by subst e; rfl)
  have b : c ≠ 49 := fun e => h2 (by subst e; rfl)
  simp [okPix, a, b]
theorem all_step (s : ByteArray) (k : Nat) (hk : k < s.size) (h : (s.data.toList.take k).all okPix = true) (h1 : (s[k].toNat : Int) = 48 ∨ (s[k].toNat : Int) = 49) : (s.data.toList.take (k + 1)).all okPix = true :=
  all_take_succ s.data.toList k (by simpa using hk) h (okPix_of _ h1)
theorem goodB_bad {w h : Int} (s : ByteArray) (k : Nat) (hk : k < s.size) (h1 : ¬ (s[k].toNat : Int) = 48) (h2 : ¬ (s[k].toNat : Int) = 49) : goodB w h s.data.toList = false :=
  goodB_pix k (by simpa using hk) (okPix_not _ h1 h2)
/-- Is there a '1' at place i? -/
def bitAt (l : List UInt8) (i : Nat) : Bool := l[i]? == some 49
/-- The first n bits of f, as a number, the first of them the highest. -/
def packV (f : Nat → Bool) : Nat → Nat
  | 0 => 0
  | n + 1 => 2 * packV f n + if f n then 1 else 0
theorem packV_lt (f : Nat → Bool) : ∀ n, packV f n < 2 ^ n
  | 0 => by simp [packV]
  | n + 1 => by have := packV_lt f n; simp only [packV, Nat.pow_succ]; split <;> omega
theorem packV_le (f : Nat → Bool) (n : Nat) (h : n ≤ 8) : packV f n ≤ 255 := by
  have h1 := packV_lt f n
  have h2 : 2 ^ n ≤ 2 ^ 8 := Nat.pow_le_pow_right (by omega) h
  omega
theorem packV_le' (f : Nat → Bool) (n : Nat) (h : n < 8) : packV f n ≤ 127 := by
  have h1 := packV_lt f n
  have h2 : 2 ^ n ≤ 2 ^ 7 := Nat.pow_le_pow_right (by omega) (by omega)
  omega
theorem packV_yes (f : Nat → Bool) (n : Nat) (h : f n = true) : packV f (n + 1) = 2 * packV f n + 1 := by simp [packV, h]
theorem packV_no (f : Nat → Bool) (n : Nat) (h : f n = false) : packV f (n + 1) = 2 * packV f n := by simp [packV, h]
theorem packV_congr (f g : Nat → Bool) : ∀ n, (∀ i, i < n → f i = g i) → packV f n = packV g n
  | 0, _ => rfl
  | n + 1, h => by simp only [packV]; rw [packV_congr f g n (fun i hi => h i (by omega)), h n (by omega)]
theorem bitAt_yes (s : ByteArray) (i : Nat) (h : i < s.size) (h1 : (s[i].toNat : Int) = 49) : bitAt s.data.toList i = true := by
  have : s[i] = 49 := UInt8.toNat_inj.1 (by rw [show UInt8.toNat 49 = 49 from rfl]; omega)
  have e : s.data.toList[i]? = some s[i] := by rw [List.getElem?_eq_getElem (by simpa using h)]; rfl
  simp [bitAt, e, this]
theorem bitAt_no (s : ByteArray) (i : Nat) (h : i < s.size) (h1 : ¬ (s[i].toNat : Int) = 49) : bitAt s.data.toList i = false := by
  have : s[i] ≠ 49 := fun e => h1 (by rw [e]; rfl)
  have e : s.data.toList[i]? = some s[i] := by rw [List.getElem?_eq_getElem (by simpa using h)]; rfl
  simp [bitAt, e, this]
theorem bitAt_out (s : ByteArray) (i : Nat) (h : ¬ i < s.size) : bitAt s.data.toList i = false := by
  have e : s.data.toList[i]? = none := by rw [List.getElem?_eq_none]; simpa using h
  simp [bitAt, e]
/-- The byte of the eight pixels from place i on. -/
def byteAt (l : List UInt8) (i : Nat) : UInt8 := UInt8.ofNat (packV (fun k => bitAt l (i + k)) 8)
theorem byteAt_toNat (l : List UInt8) (i : Nat) : (byteAt l i).toNat = packV (fun k => bitAt l (i + k)) 8 := by
  have := packV_le (fun k => bitAt l (i + k)) 8 (Nat.le_refl _)
  simp only [byteAt, UInt8.toNat_ofNat']; omega
/-- The first m packed bytes of a row. -/
def packTo (l : List UInt8) (m : Nat) : List UInt8 := (List.range m).map fun j => byteAt l (8 * j)
theorem packTo_succ (l : List UInt8) (m : Nat) : packTo l (m + 1) = packTo l m ++ [byteAt l (8 * m)] := by simp [packTo, List.range_succ]
theorem packTo_length (l : List UInt8) (m : Nat) : (packTo l m).length = m := by simp [packTo]
/-- A packed row. -/
def packRow (l : List UInt8) : List UInt8 := packTo l ((l.length + 7) / 8)
/-- The decimal digits of a number below 100. -/
def itoaL (n : Nat) : List UInt8 := if n < 10 then [48 + n.toUInt8] else [48 + (n / 10).toUInt8, 48 + (n % 10).toUInt8]
/-- The two constants out of which small numbers are cut. -/
def tenDigits : ByteArray := ⟨#[48, 49, 50, 51, 52, 53, 54, 55, 56, 57, 97, 98, 99, 100, 101, 102, 103, 104, 105, 106, 107, 108, 109, 110, 111, 112, 113, 114, 115, 116, 117, 118, 119, 120, 121, 122]⟩
def smalls : ByteArray := ⟨(([48, 48, 48, 49, 48, 50, 48, 51, 48, 52, 48, 53, 48, 54, 48, 55, 48, 56, 48, 57, 49, 48, 49, 49, 49, 50, 49, 51, 49, 52, 49, 53, 49, 54, 49, 55, 49, 56, 49, 57, 50, 48, 50, 49, 50, 50, 50, 51, 50, 52].append [50, 53, 50, 54, 50, 55, 50, 56, 50, 57, 51, 48, 51, 49, 51, 50, 51, 51, 51, 52, 51, 53, 51, 54, 51, 55, 51, 56, 51, 57, 52, 48, 52, 49, 52, 50, 52, 51, 52, 52, 52, 53, 52, 54, 52, 55, 52, 56, 52, 57]).append ([53, 48, 53, 49, 53, 50, 53, 51, 53, 52, 53, 53, 53, 54, 53, 55, 53, 56, 53, 57, 54, 48, 54, 49, 54, 50, 54, 51, 54, 52, 54, 53, 54, 54, 54, 55, 54, 56, 54, 57, 55, 48, 55, 49, 55, 50, 55, 51, 55, 52].append [55, 53, 55, 54, 55, 55, 55, 56, 55, 57, 56, 48, 56, 49, 56, 50, 56, 51, 56, 52, 56, 53, 56, 54, 56, 55, 56, 56, 56, 57, 57, 48, 57, 49, 57, 50, 57, 51, 57, 52, 57, 53, 57, 54, 57, 55, 57, 56, 57, 57])).toArray⟩
theorem cut_one : ∀ n, n < 10 → tenDigits.extract n (n + 1) = ⟨(itoaL n).toArray⟩ := by decide +kernel
theorem cut_two : ∀ n, n < 33 → 10 ≤ n → smalls.extract (n * 2) (n * 2 + 2) = ⟨(itoaL n).toArray⟩ := by decide +kernel
theorem cut_two' (n : Nat) (h : n < 33) (h1 : 10 ≤ n) (a b : Nat) (ha : a = n * 2) (hb : b = n * 2 + 2) : smalls.extract a b = ⟨(itoaL n).toArray⟩ := by subst ha hb; exact cut_two n h h1
end Go.Proofs.Ytljfiefobnncaab.Pm

/- Walks of the small functions under Read and Write. -/
namespace Go.Proofs.Ytljfiefobnncaab
open Go.RowKit

theorem ret_string {a b : ByteArray} (h : a = b) : Ending.returned (.string a) = .returned (.string b) := by rw [h]
theorem ret_bool {a b : Bool} (h : a = b) : Ending.returned (.bool a) = .returned (.bool b) := by rw [h]
theorem ret_int {k : IntKind} {a b : Int} (h : a = b) : Ending.returned (.int k a) = .returned (.int k b) := by rw [h]

set_option maxRecDepth 4000 in
set_option maxHeartbeats 400000 in
theorem isSide_any (n : Int) (w : World) :
    Calls Try.prog 20 #[.int .i64 n] w fun e w' => e = .returned (.bool (Pm.sideB n)) ∧ w' = w := by
  by_cases h1 : 1 ≤ n
  · by_cases h2 : n ≤ 32
    · go_enter Try.func20, Try.ntmps20
      go_wp2
      go_ret
      exact ⟨ret_bool (Pm.sideB_yes h1 h2).symm, rfl⟩
    · go_enter Try.func20, Try.ntmps20
      go_wp2
      go_ret
      exact ⟨ret_bool (Pm.sideB_high (n := n) (by omega)).symm, rfl⟩
  · go_enter Try.func20, Try.ntmps20
    go_wp2
    go_ret
    exact ⟨ret_bool (Pm.sideB_low (by omega)).symm, rfl⟩







end Go.Proofs.Ytljfiefobnncaab

/- IsOne and Good: is it a bitmap? -/
namespace Go.Proofs.Ytljfiefobnncaab
open Go.RowKit

set_option maxRecDepth 4000 in
set_option maxHeartbeats 400000 in
theorem isOne_any (W H : Int) (s : ByteArray) (w : World) :
    Calls Try.prog 25 #[.agg #[.int .i64 W, .int .i64 H, .string s]] w fun e w' => e = .returned (.bool (Pm.goodB W H s.data.toList)) ∧ w' = w.alloc (.cells #[.int .i64 W, .int .i64 H, .string s] 25) := by
  cases hw : Pm.sideB W
  · go_enter Try.func25, Try.ntmps25
    go_wp2_with (go_at_call 20; refine (isSide_any _ _).mono ?_; rintro e w' ⟨rfl, rfl⟩)
    go_ret
    exact ⟨ret_bool (Pm.goodB_w hw).symm, rfl⟩
  · cases hh : Pm.sideB H
    · go_enter Try.func25, Try.ntmps25
      go_wp2_with (go_at_call 20; refine (isSide_any _ _).mono ?_; rintro e w' ⟨rfl, rfl⟩)
      go_ret
      exact ⟨ret_bool (Pm.goodB_h hh).symm, rfl⟩
    · have bw := Pm.sideB_bounds hw
      have bh := Pm.sideB_bounds hh
      have bm := Pm.area_le bw.1 bw.2 bh.1 bh.2
      by_cases hl : (s.size : Int) = W * H
      · have hb : ((s.size : Int) != W * H) = false := by simp [hl]
        have hsz : (s.size : Int) ≤ 1024 := by omega
        have HL : Hid ((s.size : Int) = W * H) := hl
        clear hl
        go_enter Try.func25, Try.ntmps25
        go_wp2_with (go_at_call 20; refine (isSide_any _ _).mono ?_; rintro e w' ⟨rfl, rfl⟩)
        go_loop [3] (fun i => ∃ k : Nat, k ≤ s.size ∧ i = .int .i64 k ∧ Hid ((s.data.toList.take k).all Pm.okPix = true)) (fun i => s.size - (intOf i).toNat)
        case atStart => exact ⟨0, Nat.zero_le _, rfl, rfl⟩
        case round =>
          obtain ⟨k, hk, rfl, hall⟩ := hrel
          by_cases hlt : k < s.size
          · by_cases h0 : (s[k].toNat : Int) = 48
            · go_wp2
              go_round
              case rel => exact ⟨k + 1, by omega, by go_num, Pm.all_step s k hlt hall (.inl h0)⟩
              case measure => simp [intOf]; omega
            · by_cases h1 : (s[k].toNat : Int) = 49
              · go_wp2
                go_round
                case rel => exact ⟨k + 1, by omega, by go_num, Pm.all_step s k hlt hall (.inr h1)⟩
                case measure => simp [intOf]; omega
              · have b0 : ((s[k].toNat : Int) != 48) = true := bne_iff_ne.2 h0
                have b1 : ((s[k].toNat : Int) != 49) = true := bne_iff_ne.2 h1
                go_wp2
                go_ret
                exact ⟨ret_bool (Pm.goodB_bad s k hlt h0 h1).symm, rfl⟩
          · go_wp2
            go_ret
            exact ⟨ret_bool (Pm.goodB_yes hw hh HL.out (by have := hall.out; rwa [List.take_of_length_le (by simp; omega)] at this)).symm, rfl⟩
      · have hb : ((s.size : Int) != W * H) = true := by simp [hl]
        go_enter Try.func25, Try.ntmps25
        go_wp2_with (go_at_call 20; refine (isSide_any _ _).mono ?_; rintro e w' ⟨rfl, rfl⟩)
        go_ret
        exact ⟨ret_bool (Pm.goodB_len hl).symm, rfl⟩

end Go.Proofs.Ytljfiefobnncaab
/- packByte, packRow. -/
namespace Go.Proofs.Ytljfiefobnncaab
open Go.RowKit



theorem infoByte : (Try.prog.info? 5).map (fun i => (i.zero, i.size, i.bytes)) = some (some (.int .u8 0), 1, 1) := by kernel_rfl
def cellsOf (l : List UInt8) : List Value := l.map fun b => .int .u8 b.toNat
theorem cellsOf_snoc (l : List UInt8) (b : UInt8) : cellsOf (l ++ [b]) = cellsOf l ++ [.int .u8 b.toNat] := by simp [cellsOf]
theorem hid {p : Prop} (h : p) : Hid p := h

end Go.Proofs.Ytljfiefobnncaab