import Derived.Test.YtljfiefobnncaaaDoorK17
import Derived.Deep.QuietTactic
import Derived.BigQuiet
import Derived.Deep.RegionHeld3
import Derived.Test.YtljfiefobnncaaaDoorK06
import Derived.Test.YtljfiefobnncaaaDoorK13

/- The document's Path. -/
namespace Go.Proofs.YtljfiefobnncaaaDoor
open Go.RowKit

theorem data_size {G : ByteArray} {l : List UInt8} (h : G.data.toList = l) : G.size = l.length := by
  rw [← h]; simp
theorem step_data {G : ByteArray} {b : List UInt8} {c : UInt8} {x y : Nat} (h : G.data.toList = b) : (G ++ ⟨#[c]⟩ ++ ⟨(Pm.itoaL x).toArray⟩ ++ ⟨#[32]⟩ ++ ⟨(Pm.itoaL y).toArray⟩ : ByteArray).data.toList = b ++ [c] ++ Pm.ptL ((x : Int), (y : Int)) := by
  rw [← h]; simp [Pm.ptL]

set_option maxRecDepth 4000 in
set_option maxHeartbeats 2000000 in
theorem refPath_any (ao : Option Addr) (n cap : Nat) (L : List ShT) (hn : n = L.length) (hn2 : n ≤ 1073741824) (hm : ∀ i, (L.getD i sh0).1.length ≤ 1073741824) (hT : (Pm.pathL (ptsS L)).length ≤ 1073741824) (w : World) (hS : ShIs ao L w) :
    Calls Tryd.prog 30 #[.slice ao n cap] w fun e w' => e = .returned (pathOut L) ∧ Below w.heap.size w w' := by
  have MB := hid (placed_any ao n cap L hn (by omega) (fun i => by have := hm i; omega) w hS)
  have HS := hid hS
  have HM := hid hm
  have HN := hid hn
  have HT := hid hT
  clear hS hm hn hT
  cases hp : plB L
  · rw [hp] at MB
    have PO := hid (show pathOut L = .tuple #[.string ⟨#[]⟩, .int .i64 4] by unfold pathOut; rw [hp]; rfl)
    rw [PO.out]
    clear hp PO
    go_enter Tryd.func30, Tryd.ntmps30
    go_wp2_with fail
    refine MB.out.mono ?_
    rintro e w1 ⟨rfl, hb⟩
    have HB := hid hb
    clear hb
    go_wp2
    go_ret2
    exact ⟨rfl, HB.out⟩
  · rw [hp] at MB
    have PO := hid (show pathOut L = .tuple #[.string ⟨(Pm.pathL (ptsS L)).toArray⟩, .int .i64 0] by unfold pathOut; rw [hp]; rfl)
    have HP := hid hp
    rw [PO.out]
    clear hp PO
    go_enter Tryd.func30, Tryd.ntmps30
    go_wp2_with fail
    refine MB.out.mono ?_
    rintro e w1 ⟨rfl, hb⟩
    have B1 := hid hb
    have z1 := hb.size
    have S1 := hid (HS.out.on hb)
    clear hb
    go_wp2_with fail
    go_loopw [5, 6] (fun sv iv wr => ∃ (k : Nat) (G : ByteArray), k ≤ n ∧ iv = .int .i64 k ∧ sv = .string G ∧ Hid (G.data.toList = Pm.pathL ((ptsS L).take k)) ∧ Hid (Below w1.heap.size w1 wr)) (fun _ i _ => n - (intOf i).toNat)
    case atStart => exact ⟨0, ⟨#[]⟩, by omega, rfl, rfl, rfl, Below.refl _ _⟩
    case round =>
      obtain ⟨k, G, hk, rfl, rfl, hO, hB⟩ := hrel
      have hz := hB.out.size
      have pt := Pm.pathL_take (ptsS L) k
      have hT := HT.out
      have gs := data_size hO.out
      by_cases hlt : k < n
      · obtain ⟨gl, o, rfl, hgl, hc⟩ := S1.out.resolve_left (by have := HN.out; omega)
        obtain ⟨ap, cp, c0, c1, c2⟩ := hc k (by have := HN.out; omega)
        have RD := hid (fun wx (h : Below w1.heap.size w1 wx) => (h.cell (p := ⟨gl, o + k * 2, none⟩) hgl).trans c0)
        have k0' : (0 : Int) ≤ (k : Nat) := by omega
        have k1' : ((k : Nat) : Int) < (n : Nat) := by omega
        have OS := okSh_small (all_at sh0 HP.out (i := k) (by have := HN.out; omega))
        have hmk := HM.out k
        have SN := hid (show Pm.pathL ((ptsS L).take (k + 1)) = Pm.pathL ((ptsS L).take k) ++ Pm.shL (L.getD k sh0).1 by rw [take_snocY (ptsS L) k [] (by rw [ptsS_len]; have := HN.out; omega), Pm.pathL_snoc, ptsS_at])
        obtain ⟨s, hs⟩ : ∃ s, s = L.getD k sh0 := ⟨_, rfl⟩
        rw [← hs] at c2 hmk OS SN RD
        obtain ⟨l, hl⟩ : ∃ l, l = s.1 := ⟨_, rfl⟩
        rw [← hl] at c2 hmk OS SN RD
        obtain ⟨m, hmm⟩ : ∃ m, m = l.length := ⟨_, rfl⟩
        rw [← hmm] at c2 hmk OS RD
        obtain ⟨g, q, rfl, hp⟩ := c2.resolve_left (by omega)
        have PT := hid (fun j (hj : j < m) wx (h : Below w1.heap.size w1 wx) => (hp.on h hp.1).2 j (by omega))
        have SM := hid OS.2
        have m0 := OS.1
        have HMM := hid hmm
        obtain ⟨b, hb⟩ : ∃ b, b = Pm.pathL ((ptsS L).take k) := ⟨_, rfl⟩
        rw [← hb] at SN hO pt gs
        have bb : b.length ≤ 1073741824 := by omega
        have IN : Hid (G.data.toList = b ++ Pm.shP (l.take 0)) := by show _ = _; rw [List.take_zero]; simpa [Pm.shP] using hO.out
        clear hc c0 c1 hs c2 hp hmm OS hb hl pt gs hT hO
        have r0 := RD.out _ hB.out
        go_wp2_with fail
        go_loopw [5, 7, 8] (fun sv cv jv wr => ∃ (j : Nat) (F : ByteArray) (c : UInt8), j ≤ m ∧ jv = .int .i64 j ∧ sv = .string F ∧ cv = .string ⟨#[c]⟩ ∧ Hid (c = if j = 0 then 77 else 76) ∧ Hid (F.data.toList = b ++ Pm.shP (l.take j)) ∧ Hid (Below w1.heap.size w1 wr)) (fun _ _ i _ => m - (intOf i).toNat)
        case atStart => exact ⟨0, G, 77, by omega, rfl, rfl, rfl, rfl, IN, hB⟩
        case round =>
          clear r0 hB IN hz
          obtain ⟨j, F, c, hj, rfl, rfl, rfl, HC, hF, hB⟩ := hrel
          have hz := hB.out.size
          have r0 := RD.out _ hB.out
          have tl : (l.take j).length = j := by rw [List.length_take]; have := HMM.out; omega
          have sl := Pm.shP_len (l.take j)
          have fs := data_size hF.out
          rw [List.length_append] at fs
          by_cases hjm : j < m
          · obtain ⟨x0, x1⟩ := PT.out j hjm _ hB.out
            have NX := hid (show Pm.shP (l.take (j + 1)) = Pm.shP (l.take j) ++ [if j = 0 then 77 else 76] ++ Pm.ptL (l.getD j (0, 0)) by rw [take_snocY l j (0, 0) (by have := HMM.out; omega), Pm.shP_snoc, tl])
            obtain ⟨x, y, hxy, hx, hy⟩ := pt_nat (SM.out.at j)
            rw [hxy] at x0 x1 NX
            dsimp only at x0 x1
            have lx := Pm.itoaL_len x
            have ly := Pm.itoaL_len y
            have IX := hid (fun W => itoa_any x hx W)
            have IY := hid (fun W => itoa_any y hy W)
            have D := hid (show (F ++ ⟨#[c]⟩ ++ ⟨(Pm.itoaL x).toArray⟩ ++ ⟨#[32]⟩ ++ ⟨(Pm.itoaL y).toArray⟩ : ByteArray).data.toList = b ++ Pm.shP (l.take (j + 1)) by rw [step_data hF.out, NX.out, HC.out]; simp)
            have j0' : (0 : Int) ≤ (j : Nat) := by omega
            have j1' : ((j : Nat) : Int) < (m : Nat) := by omega
            have fb : F.size ≤ 7516192768 := by omega
            have s1 : ¬ 9223372036854775807 < F.size + 1 := by omega
            have s2 : ¬ 9223372036854775807 < F.size + 1 + (Pm.itoaL x).length := by omega
            have s3 : ¬ 9223372036854775807 < F.size + 1 + (Pm.itoaL x).length + 1 := by omega
            have s4 : ¬ 9223372036854775807 < F.size + 1 + (Pm.itoaL x).length + 1 + (Pm.itoaL y).length := by omega
            have S0 := hid (show (wr.alloc (.cells #[.int .i64 x, .int .i64 y] 83)).drew.cell? ⟨wr.heap.size, 0, none⟩ = some (.int .i64 x) ∧ (wr.alloc (.cells #[.int .i64 x, .int .i64 y] 83)).drew.cell? ⟨wr.heap.size, 1, none⟩ = some (.int .i64 y) from ⟨by show (wr.alloc _).cell? _ = _; simp, by show (wr.alloc _).cell? _ = _; simp⟩)
            have B2 := hid (show Below w1.heap.size w1 (wr.alloc (.cells #[.int .i64 x, .int .i64 y] 83)).drew from (hB.out.alloc hz _).trans ⟨rfl, rfl, rfl, Nat.le_refl _, fun _ _ => rfl⟩)
            clear hxy fs sl tl
            go_wp2_with fail
            go_region_held3 (fun w' => w'.cell? ⟨wr.heap.size, 0, none⟩ = some (.int .i64 x) ∧ w'.cell? ⟨wr.heap.size, 1, none⟩ = some (.int .i64 y))
              (first | exact S0.out | exact (by assumption : _ ∧ _))
              (first | (go_at_call 24; refine (IX.out _).mono ?_; rintro e w2 ⟨rfl, rfl⟩) | (go_at_call 24; refine (IY.out _).mono ?_; rintro e w2 ⟨rfl, rfl⟩))
            go_wp2
            go_roundw
            case rel => exact ⟨j + 1, _, 76, by omega, by go_num, rfl, rfl, rfl, D, B2⟩
            case measure => simp [intOf]; omega
          · have ej : j = m := by omega
            have hj' : ((m : Nat) : Int) ≤ (j : Nat) := by omega
            have FE := hid (show (F ++ ⟨#[122]⟩ : ByteArray).data.toList = Pm.pathL ((ptsS L).take (k + 1)) by
              rw [SN.out]
              have : l.take j = l := List.take_of_length_le (by have := HMM.out; omega)
              have h2 := hF.out
              rw [this] at h2
              simp [Pm.shL, h2])
            have fb : F.size ≤ 7516192768 := by omega
            clear fs sl tl ej
            go_wp2
            go_roundw
            case rel => exact ⟨k + 1, _, by omega, by go_num, rfl, FE, hB⟩
            case measure => simp [intOf]; omega
      · have hk' : ((n : Nat) : Int) ≤ (k : Nat) := by omega
        have BW := hid (show Below w.heap.size w wr from B1.out.trans (hB.out.mono z1))
        have FE := hid (show G = ⟨(Pm.pathL (ptsS L)).toArray⟩ by
          have h2 := hO.out
          rw [List.take_of_length_le (by rw [ptsS_len]; have := HN.out; omega)] at h2
          rw [← h2])
        clear pt hT gs
        go_wp2
        go_ret2
        exact ⟨by rw [← FE.out]; rfl, BW.out⟩

end Go.Proofs.YtljfiefobnncaaaDoor

/- Walks of the small functions under Read. -/
namespace Go.Proofs.YtljfiefobnncaaaDoor
open Go.RowKit

theorem hidr {p : Prop} (h : p) : Hid p := h

set_option maxRecDepth 4000 in
set_option maxHeartbeats 400000 in
theorem isBlank_any (c : UInt8) (w : World) :
    Calls Tryd.prog 72 #[.int .u8 c.toNat] w fun e w' => e = .returned (.bool (Pm.blankB c)) ∧ w' = w := by
  have E := hidr (Pm.blankB_eq c)
  cases q1 : ((c.toNat : Int) == 32) <;> cases q2 : ((c.toNat : Int) == 10) <;> cases q3 : ((c.toNat : Int) == 9)
  all_goals
    go_enter Tryd.func72, Tryd.ntmps72
    go_wp2
    go_ret
    exact ⟨ret_bool (by rw [E.out, q1, q2, q3]; rfl), rfl⟩

set_option maxRecDepth 4000 in
set_option maxHeartbeats 400000 in
theorem blank_any (c : UInt8) (w : World) :
    Calls Tryd.prog 42 #[.int .u8 c.toNat] w fun e w' => e = .returned (.bool (Pm.blankB c)) ∧ w' = w := by
  have E := hidr (Pm.blankB_eq c)
  cases q1 : ((c.toNat : Int) == 32) <;> cases q2 : ((c.toNat : Int) == 10) <;> cases q3 : ((c.toNat : Int) == 9)
  all_goals
    go_enter Tryd.func42, Tryd.ntmps42
    go_wp2
    go_ret
    exact ⟨ret_bool (by rw [E.out, q1, q2, q3]; rfl), rfl⟩

set_option maxRecDepth 4000 in
set_option maxHeartbeats 400000 in
theorem isDigit_any (c : UInt8) (w : World) :
    Calls Tryd.prog 90 #[.int .u8 c.toNat] w fun e w' => e = .returned (.bool (Pm.digitB c)) ∧ w' = w := by
  have E := hidr (Pm.digitB_eq c)
  cases q1 : decide ((48 : Int) ≤ c.toNat)
  all_goals
    go_enter Tryd.func90, Tryd.ntmps90
    go_wp2
    go_ret
    exact ⟨ret_bool (by rw [E.out, q1]; rfl), rfl⟩

set_option maxRecDepth 4000 in
set_option maxHeartbeats 400000 in
theorem digit_any (c : UInt8) (w : World) :
    Calls Tryd.prog 58 #[.int .u8 c.toNat] w fun e w' => e = .returned (.bool (Pm.digitB c)) ∧ w' = w := by
  have E := hidr (Pm.digitB_eq c)
  cases q1 : decide ((48 : Int) ≤ c.toNat)
  all_goals
    go_enter Tryd.func58, Tryd.ntmps58
    go_wp2
    go_ret
    exact ⟨ret_bool (by rw [E.out, q1]; rfl), rfl⟩

set_option maxRecDepth 4000 in
set_option maxHeartbeats 400000 in
theorem wrongAt_any (s : ByteArray) (a : Nat) (w : World) :
    Calls Tryd.prog 68 #[.string s, .int .i64 a] w fun e w' => e = .returned (.int .i64 (Pm.lackE s.size a)) ∧ w' = w := by
  by_cases h : s.size ≤ a
  · go_enter Tryd.func68, Tryd.ntmps68
    go_wp2
    go_ret
    exact ⟨ret_int (Pm.lackE_short h).symm, rfl⟩
  · go_enter Tryd.func68, Tryd.ntmps68
    go_wp2
    go_ret
    exact ⟨ret_int (Pm.lackE_syntax h).symm, rfl⟩

set_option maxRecDepth 4000 in
set_option maxHeartbeats 400000 in
theorem lacks_any (s : ByteArray) (a : Nat) (ha : a ≤ s.size) (w : World) :
    Calls Tryd.prog 18 #[.string s, .int .i64 a] w fun e w' => e = .returned (.tuple #[.int .i64 (Pm.lackE s.size a), .int .i64 a]) ∧ w' = w := by
  by_cases h : s.size ≤ a
  · have e : a = s.size := by omega
    subst e
    go_enter Tryd.func18, Tryd.ntmps18
    go_wp2
    go_ret2
    exact ⟨by rw [Pm.lackE_short h]; rfl, rfl⟩
  · go_enter Tryd.func18, Tryd.ntmps18
    go_wp2
    go_ret2
    exact ⟨by rw [Pm.lackE_syntax h]; rfl, rfl⟩

set_option maxRecDepth 4000 in
set_option maxHeartbeats 400000 in
theorem at_in (s : ByteArray) (a : Nat) (ha : a < s.size) (w : World) :
    Calls Tryd.prog 17 #[.string s, .int .i64 a] w fun e w' => e = .returned (.tuple #[.int .u8 s[a].toNat, .bool true]) ∧ w' = w := by
  go_enter Tryd.func17, Tryd.ntmps17
  go_wp2
  go_ret2
  exact ⟨rfl, rfl⟩

set_option maxRecDepth 4000 in
set_option maxHeartbeats 400000 in
theorem at_out (s : ByteArray) (a : Nat) (ha : ¬ a < s.size) (w : World) :
    Calls Tryd.prog 17 #[.string s, .int .i64 a] w fun e w' => e = .returned (.tuple #[.int .u8 0, .bool false]) ∧ w' = w := by
  go_enter Tryd.func17, Tryd.ntmps17
  go_wp2
  go_ret2
  exact ⟨rfl, rfl⟩
end Go.Proofs.YtljfiefobnncaaaDoor
