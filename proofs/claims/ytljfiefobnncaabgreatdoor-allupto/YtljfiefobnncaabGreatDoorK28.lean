import Derived.Test.YtljfiefobnncaabGreatDoorK27
import Derived.Laws.BytesArg
import Derived.Deep.QuietTactic
import Derived.BigQuiet
import Derived.Deep.RegionHeld3
import Derived.Test.YtljfiefobnncaabGreatDoorK24
import Derived.Test.YtljfiefobnncaabGreatDoorK01

/- Writing paths: the whole; outline.Path. -/
namespace Go.Proofs.YtljfiefobnncaabGreatDoor
open Go.RowKit

/-- The points of the shapes. -/
def ptsS (L : List ShT) : List (List (Int × Int)) := L.map (·.1)
theorem ptsS_len (L : List ShT) : (ptsS L).length = L.length := by simp [ptsS]
theorem ptsS_at (L : List ShT) (i : Nat) : (ptsS L).getD i [] = (L.getD i sh0).1 := by
  unfold ptsS
  rw [List.getD_eq_getElem?_getD, List.getD_eq_getElem?_getD, List.getElem?_map]
  cases L[i]? <;> rfl
/-- What writing answers. -/
def pathOut (L : List ShT) : Value := if plB L = true then .tuple #[.string ⟨(Pm.pathL (ptsS L)).toArray⟩, .int .i64 0] else .tuple #[.string ⟨#[]⟩, .int .i64 4]
theorem shL_pos (l : List (Int × Int)) : 0 < (Pm.shL l).length := by unfold Pm.shL; simp

set_option maxRecDepth 4000 in
set_option maxHeartbeats 2000000 in
theorem pWrite_any (ao : Option Addr) (n cap : Nat) (L : List ShT) (hn : n = L.length) (hn2 : n ≤ 1073741824) (hm : ∀ i, (L.getD i sh0).1.length ≤ 1073741824) (hT : (Pm.pathL (ptsS L)).length ≤ 1073741824) (w : World) (hS : ShIs ao L w) :
    Calls Tryz.prog 53 #[.slice ao n cap] w fun e w' => e = .returned (pathOut L) ∧ Below w.heap.size w w' := by
  obtain ⟨i0, hi, hz0, hz1, hz2⟩ := info_parts infoByte
  have MB := hid (shapesMay_any ao n cap L hn (by omega) (fun i => by have := hm i; omega) w hS)
  have HS := hid hS
  have HM := hid hm
  have HN := hid hn
  have HT := hid hT
  clear hS hm hn hT
  cases hp : plB L
  · rw [hp] at MB
    have PO := hid (show pathOut L = .tuple #[.string ⟨#[]⟩, .int .i64 4] by unfold pathOut; rw [hp]; rfl)
    rw [PO.out]
    clear hp PO
    go_enter Tryz.func53, Tryz.ntmps53
    go_wp2_with fail
    refine MB.out.mono ?_
    rintro e w1 ⟨rfl, hb⟩
    have HB := hid hb
    clear hb
    go_wp2
    go_ret2
    exact ⟨rfl, HB.out⟩
  · rw [hp] at MB
    have PO := hid (show pathOut L = .tuple #[.string ⟨(Pm.pathL (ptsS L)).toArray⟩, .int .i64 0] by unfold pathOut; rw [hp]; rfl)
    have HP := hid hp
    rw [PO.out]
    clear hp PO
    go_enter Tryz.func53, Tryz.ntmps53
    go_wp2_with fail
    refine MB.out.mono ?_
    rintro e w1 ⟨rfl, hb⟩
    have B1 := hid hb
    have z1 := hb.size
    have S1 := hid (HS.out.on hb)
    clear hb
    go_wp2_with fail
    go_loopw [4, 5] (fun v iv wr => ∃ (k : Nat), k ≤ n ∧ iv = .int .i64 k ∧ Hid (wr.ownsRow w1.heap.size 5 1 v (Pm.pathL ((ptsS L).take k)).length (cellsOf (Pm.pathL ((ptsS L).take k)))) ∧ Hid (Below w1.heap.size w1 wr)) (fun _ i _ => n - (intOf i).toNat)
    case atStart => exact ⟨0, by omega, rfl, World.ownsRow_nil _ _ _ _, Below.refl _ _⟩
    case round =>
      obtain ⟨k, hk, rfl, hO, hB⟩ := hrel
      have hz := hB.out.size
      have pt := Pm.pathL_take (ptsS L) k
      have pt1 := Pm.pathL_take (ptsS L) (k + 1)
      have hT := HT.out
      obtain ⟨av, cv, hv⟩ := own_len hO.out
      subst hv
      by_cases hlt : k < n
      · obtain ⟨gl, o, rfl, hgl, hc⟩ := S1.out.resolve_left (by have := HN.out; omega)
        obtain ⟨ap, cp, c0, c1, c2⟩ := hc k (by have := HN.out; omega)
        have r0 := (hB.out.cell (p := ⟨gl, o + k * 2, none⟩) hgl).trans c0
        have k0' : (0 : Int) ≤ (k : Nat) := by omega
        have k1' : ((k : Nat) : Int) < (n : Nat) := by omega
        have OS := okSh_small (all_at sh0 HP.out (i := k) (by have := HN.out; omega))
        have hmk := HM.out k
        have SN := hid (show Pm.pathL ((ptsS L).take (k + 1)) = Pm.pathL ((ptsS L).take k) ++ Pm.shL (L.getD k sh0).1 by rw [take_snocY (ptsS L) k [] (by rw [ptsS_len]; have := HN.out; omega), Pm.pathL_snoc, ptsS_at])
        obtain ⟨s, hs⟩ : ∃ s, s = L.getD k sh0 := ⟨_, rfl⟩
        rw [← hs] at r0 c2 hmk OS SN
        obtain ⟨m, hmm⟩ : ∃ m, m = s.1.length := ⟨_, rfl⟩
        rw [← hmm] at r0 c2 hmk OS
        obtain ⟨g, q, rfl, hp⟩ := c2.resolve_left (by omega)
        have ST := hid (fun W' (h : Below w1.heap.size w1 W') => shapeText_any g q m cp s.1 hmm OS.1 OS.2 hmk W' (hp.on h hp.1))
        have ln := congrArg List.length SN.out
        rw [List.length_append] at ln
        obtain ⟨t, ht⟩ : ∃ t, t = Pm.shL s.1 := ⟨_, rfl⟩
        rw [← ht] at ST SN ln
        obtain ⟨b, hb⟩ : ∃ b, b = Pm.pathL ((ptsS L).take k) := ⟨_, rfl⟩
        rw [← hb] at SN hO pt ln ⊢
        clear hc c0 c1 hs c2 hp hmm OS ht hb
        go_wp2_with fail
        refine (ST.out _ hB.out).mono ?_
        rintro e w2 ⟨rfl, hb2⟩
        have B2 := hid (show Below w1.heap.size w1 w2 from hB.out.trans (hb2.mono hz))
        have O2 := hid (own_below hO.out hb2)
        have s2 := B2.out.size
        have ts : (⟨t.toArray⟩ : ByteArray).size = t.length := by simp [ByteArray.size]
        have m3 : b.length + (⟨t.toArray⟩ : ByteArray).size ≤ maxLen := by rw [ts]; unfold maxLen; omega
        have m4 : b.length + (⟨t.toArray⟩ : ByteArray).size ≤ 140737488355328 := by rw [ts]; omega
        clear hb2 r0
        go_wp2_with (first
          | (refine Go.Lib.wpList_append_own_string _ rfl _ _ 79 9 rfl w1.heap.size 5 i0 Tryz.underlying79 Tryz.underlying9 hi hz0 hz1 hz2 _ _ _ rfl O2.out ⟨t.toArray⟩ rfl m3 m4 s2 ?_))
        intro v4 w4 o4 g4 _
        have B4 := hid (show Below w1.heap.size w1 w4 from B2.out.grown g4 s2 (fun k hk => (O2.out.lt k hk).1))
        have O4 := hid (show w4.ownsRow w1.heap.size 5 1 v4 (Pm.pathL ((ptsS L).take (k + 1))).length (cellsOf (Pm.pathL ((ptsS L).take (k + 1)))) by
          have e2 : cellsOf (Pm.pathL ((ptsS L).take (k + 1))) = cellsOf b ++ Go.Lib.strCells ⟨t.toArray⟩ := by rw [SN.out]; simp [cellsOf, Go.Lib.strCells]
          rw [ln, e2]; exact o4)
        clear o4 g4
        go_wp2
        go_roundw
        case rel => exact ⟨k + 1, by omega, by go_num, O4, B4⟩
        case measure => simp [intOf]; omega
      · have ek : k = n := by omega
        have hk' : ((n : Nat) : Int) ≤ (k : Nat) := by omega
        have BW := hid (show Below w.heap.size w wr from B1.out.trans (hB.out.mono z1))
        have FE := hid (show (ptsS L).take k = ptsS L by rw [List.take_of_length_le (by rw [ptsS_len]; have := HN.out; omega)])
        rw [FE.out] at hO ⊢
        obtain ⟨b, hb⟩ : ∃ b, b = Pm.pathL (ptsS L) := ⟨_, rfl⟩
        rw [← hb] at hO ⊢
        have HBE := hid hb
        have hown := hO.out
        clear hb ek pt pt1 hT
        rcases hown.2 with ⟨hnil, h0⟩ | ⟨g', cap', cur, hv2, -, -, -, -, -, -⟩
        · have eb : b = [] := List.length_eq_zero_iff.1 h0
          subst eb
          injection hnil with e1 e2 e3
          subst e1
          subst e3
          have hcv := run_convert_bytes_nil (P := Tryz.prog) wr 79 5 Tryz.underlying79 Tryz.underlying5 0 0 9 Tryz.underlying9
          clear hown
          go_wp2
          go_ret2
          exact ⟨by rw [← HBE.out]; rfl, BW.out⟩
        · injection hv2 with e1 e2 e3
          subst e1
          subst e3
          have hcv := run_convert_bytes_back (P := Tryz.prog) wr 79 9 5 ⟨g', 0, none⟩ cv b Tryz.underlying79 Tryz.underlying5 Tryz.underlying9 (fun j hj => hown.cells (g := g') rfl j _ (by simp [cellsOf, hj]))
          clear hown
          go_wp2
          go_ret2
          exact ⟨by rw [← HBE.out]; rfl, BW.out⟩

set_option maxRecDepth 4000 in
set_option maxHeartbeats 400000 in
theorem path_any (ao : Option Addr) (n cap : Nat) (L : List ShT) (hn : n = L.length) (hn2 : n ≤ 1073741824) (hm : ∀ i, (L.getD i sh0).1.length ≤ 1073741824) (hT : (Pm.pathL (ptsS L)).length ≤ 1073741824) (w : World) (hS : ShIs ao L w) :
    Calls Tryz.prog 26 #[.slice ao n cap] w fun e w' => e = .returned (pathOut L) ∧ Below w.heap.size w w' := by
  have PF := hid (pWrite_any ao n cap L hn hn2 hm hT w hS)
  have h : ∃ (c : ByteArray) (d : Int), pathOut L = .tuple #[.string c, .int .i64 d] := by unfold pathOut; split <;> exact ⟨_, _, rfl⟩
  obtain ⟨c, d, e⟩ := h
  rw [e] at PF ⊢
  clear e hS hm hn hT
  go_enter Tryz.func26, Tryz.ntmps26
  go_wp2_with fail
  refine PF.out.mono ?_
  rintro e X ⟨rfl, hb1⟩
  have XB := hid hb1
  clear hb1
  go_wp2
  go_ret2
  exact ⟨rfl, XB.out⟩

end Go.Proofs.YtljfiefobnncaabGreatDoor

/- The document's Path. -/
namespace Go.Proofs.YtljfiefobnncaabGreatDoor
open Go.RowKit

theorem data_size {G : ByteArray} {l : List UInt8} (h : G.data.toList = l) : G.size = l.length := by
  rw [← h]; simp
theorem step_data {G : ByteArray} {b : List UInt8} {c : UInt8} {x y : Nat} (h : G.data.toList = b) : (G ++ ⟨#[c]⟩ ++ ⟨(Pm.itoaL x).toArray⟩ ++ ⟨#[32]⟩ ++ ⟨(Pm.itoaL y).toArray⟩ : ByteArray).data.toList = b ++ [c] ++ Pm.ptL ((x : Int), (y : Int)) := by
  rw [← h]; simp [Pm.ptL]

set_option maxRecDepth 4000 in
set_option maxHeartbeats 2000000 in
theorem refPath_any (ao : Option Addr) (n cap : Nat) (L : List ShT) (hn : n = L.length) (hn2 : n ≤ 1073741824) (hm : ∀ i, (L.getD i sh0).1.length ≤ 1073741824) (hT : (Pm.pathL (ptsS L)).length ≤ 1073741824) (w : World) (hS : ShIs ao L w) :
    Calls Tryz.prog 27 #[.slice ao n cap] w fun e w' => e = .returned (pathOut L) ∧ Below w.heap.size w w' := by
  have MB := hid (placed_any ao n cap L hn (by omega) (fun i => by have := hm i; omega) w hS)
  have HS := hid hS
  have HM := hid hm
  have HN := hid hn
  have HT := hid hT
  clear hS hm hn hT
  cases hp : plB L
  · rw [hp] at MB
    have PO := hid (show pathOut L = .tuple #[.string ⟨#[]⟩, .int .i64 4] by unfold pathOut; rw [hp]; rfl)
    rw [PO.out]
    clear hp PO
    go_enter Tryz.func27, Tryz.ntmps27
    go_wp2_with fail
    refine MB.out.mono ?_
    rintro e w1 ⟨rfl, hb⟩
    have HB := hid hb
    clear hb
    go_wp2
    go_ret2
    exact ⟨rfl, HB.out⟩
  · rw [hp] at MB
    have PO := hid (show pathOut L = .tuple #[.string ⟨(Pm.pathL (ptsS L)).toArray⟩, .int .i64 0] by unfold pathOut; rw [hp]; rfl)
    have HP := hid hp
    rw [PO.out]
    clear hp PO
    go_enter Tryz.func27, Tryz.ntmps27
    go_wp2_with fail
    refine MB.out.mono ?_
    rintro e w1 ⟨rfl, hb⟩
    have B1 := hid hb
    have z1 := hb.size
    have S1 := hid (HS.out.on hb)
    clear hb
    go_wp2_with fail
    go_loopw [5, 6] (fun sv iv wr => ∃ (k : Nat) (G : ByteArray), k ≤ n ∧ iv = .int .i64 k ∧ sv = .string G ∧ Hid (G.data.toList = Pm.pathL ((ptsS L).take k)) ∧ Hid (Below w1.heap.size w1 wr)) (fun _ i _ => n - (intOf i).toNat)
    case atStart => exact ⟨0, ⟨#[]⟩, by omega, rfl, rfl, rfl, Below.refl _ _⟩
    case round =>
      obtain ⟨k, G, hk, rfl, rfl, hO, hB⟩ := hrel
      have hz := hB.out.size
      have pt := Pm.pathL_take (ptsS L) k
      have hT := HT.out
      have gs := data_size hO.out
      by_cases hlt : k < n
      · obtain ⟨gl, o, rfl, hgl, hc⟩ := S1.out.resolve_left (by have := HN.out; omega)
        obtain ⟨ap, cp, c0, c1, c2⟩ := hc k (by have := HN.out; omega)
        have RD := hid (fun wx (h : Below w1.heap.size w1 wx) => (h.cell (p := ⟨gl, o + k * 2, none⟩) hgl).trans c0)
        have k0' : (0 : Int) ≤ (k : Nat) := by omega
        have k1' : ((k : Nat) : Int) < (n : Nat) := by omega
        have OS := okSh_small (all_at sh0 HP.out (i := k) (by have := HN.out; omega))
        have hmk := HM.out k
        have SN := hid (show Pm.pathL ((ptsS L).take (k + 1)) = Pm.pathL ((ptsS L).take k) ++ Pm.shL (L.getD k sh0).1 by rw [take_snocY (ptsS L) k [] (by rw [ptsS_len]; have := HN.out; omega), Pm.pathL_snoc, ptsS_at])
        obtain ⟨s, hs⟩ : ∃ s, s = L.getD k sh0 := ⟨_, rfl⟩
        rw [← hs] at c2 hmk OS SN RD
        obtain ⟨l, hl⟩ : ∃ l, l = s.1 := ⟨_, rfl⟩
        rw [← hl] at c2 hmk OS SN RD
        obtain ⟨m, hmm⟩ : ∃ m, m = l.length := ⟨_, rfl⟩
        rw [← hmm] at c2 hmk OS RD
        obtain ⟨g, q, rfl, hp⟩ := c2.resolve_left (by omega)
        have PT := hid (fun j (hj : j < m) wx (h : Below w1.heap.size w1 wx) => (hp.on h hp.1).2 j (by omega))
        have SM := hid OS.2
        have m0 := OS.1
        have HMM := hid hmm
        obtain ⟨b, hb⟩ : ∃ b, b = Pm.pathL ((ptsS L).take k) := ⟨_, rfl⟩
        rw [← hb] at SN hO pt gs
        have bb : b.length ≤ 1073741824 := by omega
        have IN : Hid (G.data.toList = b ++ Pm.shP (l.take 0)) := by show _ = _; rw [List.take_zero]; simpa [Pm.shP] using hO.out
        clear hc c0 c1 hs c2 hp hmm OS hb hl pt gs hT hO
        have r0 := RD.out _ hB.out
        go_wp2_with fail
        go_loopw [5, 7, 8] (fun sv cv jv wr => ∃ (j : Nat) (F : ByteArray) (c : UInt8), j ≤ m ∧ jv = .int .i64 j ∧ sv = .string F ∧ cv = .string ⟨#[c]⟩ ∧ Hid (c = if j = 0 then 77 else 76) ∧ Hid (F.data.toList = b ++ Pm.shP (l.take j)) ∧ Hid (Below w1.heap.size w1 wr)) (fun _ _ i _ => m - (intOf i).toNat)
        case atStart => exact ⟨0, G, 77, by omega, rfl, rfl, rfl, rfl, IN, hB⟩
        case round =>
          clear r0 hB IN hz
          obtain ⟨j, F, c, hj, rfl, rfl, rfl, HC, hF, hB⟩ := hrel
          have hz := hB.out.size
          have r0 := RD.out _ hB.out
          have tl : (l.take j).length = j := by rw [List.length_take]; have := HMM.out; omega
          have sl := Pm.shP_len (l.take j)
          have fs := data_size hF.out
          rw [List.length_append] at fs
          by_cases hjm : j < m
          · obtain ⟨x0, x1⟩ := PT.out j hjm _ hB.out
            have NX := hid (show Pm.shP (l.take (j + 1)) = Pm.shP (l.take j) ++ [if j = 0 then 77 else 76] ++ Pm.ptL (l.getD j (0, 0)) by rw [take_snocY l j (0, 0) (by have := HMM.out; omega), Pm.shP_snoc, tl])
            obtain ⟨x, y, hxy, hx, hy⟩ := pt_nat (SM.out.at j)
            rw [hxy] at x0 x1 NX
            dsimp only at x0 x1
            have lx := Pm.itoaL_len x
            have ly := Pm.itoaL_len y
            have IX := hid (fun W => itoa_any x hx W)
            have IY := hid (fun W => itoa_any y hy W)
            have D := hid (show (F ++ ⟨#[c]⟩ ++ ⟨(Pm.itoaL x).toArray⟩ ++ ⟨#[32]⟩ ++ ⟨(Pm.itoaL y).toArray⟩ : ByteArray).data.toList = b ++ Pm.shP (l.take (j + 1)) by rw [step_data hF.out, NX.out, HC.out]; simp)
            have j0' : (0 : Int) ≤ (j : Nat) := by omega
            have j1' : ((j : Nat) : Int) < (m : Nat) := by omega
            have fb : F.size ≤ 7516192768 := by omega
            have s1 : ¬ 9223372036854775807 < F.size + 1 := by omega
            have s2 : ¬ 9223372036854775807 < F.size + 1 + (Pm.itoaL x).length := by omega
            have s3 : ¬ 9223372036854775807 < F.size + 1 + (Pm.itoaL x).length + 1 := by omega
            have s4 : ¬ 9223372036854775807 < F.size + 1 + (Pm.itoaL x).length + 1 + (Pm.itoaL y).length := by omega
            have S0 := hid (show (wr.alloc (.cells #[.int .i64 x, .int .i64 y] 65)).drew.cell? ⟨wr.heap.size, 0, none⟩ = some (.int .i64 x) ∧ (wr.alloc (.cells #[.int .i64 x, .int .i64 y] 65)).drew.cell? ⟨wr.heap.size, 1, none⟩ = some (.int .i64 y) from ⟨by show (wr.alloc _).cell? _ = _; simp, by show (wr.alloc _).cell? _ = _; simp⟩)
            have B2 := hid (show Below w1.heap.size w1 (wr.alloc (.cells #[.int .i64 x, .int .i64 y] 65)).drew from (hB.out.alloc hz _).trans ⟨rfl, rfl, rfl, Nat.le_refl _, fun _ _ => rfl⟩)
            clear hxy fs sl tl
            go_wp2_with fail
            go_region_held3 (fun w' => w'.cell? ⟨wr.heap.size, 0, none⟩ = some (.int .i64 x) ∧ w'.cell? ⟨wr.heap.size, 1, none⟩ = some (.int .i64 y))
              (first | exact S0.out | exact (by assumption : _ ∧ _))
              (first | (go_at_call 41; refine (IX.out _).mono ?_; rintro e w2 ⟨rfl, rfl⟩) | (go_at_call 41; refine (IY.out _).mono ?_; rintro e w2 ⟨rfl, rfl⟩))
            go_wp2
            go_roundw
            case rel => exact ⟨j + 1, _, 76, by omega, by go_num, rfl, rfl, rfl, D, B2⟩
            case measure => simp [intOf]; omega
          · have ej : j = m := by omega
            have hj' : ((m : Nat) : Int) ≤ (j : Nat) := by omega
            have FE := hid (show (F ++ ⟨#[122]⟩ : ByteArray).data.toList = Pm.pathL ((ptsS L).take (k + 1)) by
              rw [SN.out]
              have : l.take j = l := List.take_of_length_le (by have := HMM.out; omega)
              have h2 := hF.out
              rw [this] at h2
              simp [Pm.shL, h2])
            have fb : F.size ≤ 7516192768 := by omega
            clear fs sl tl ej
            go_wp2
            go_roundw
            case rel => exact ⟨k + 1, _, by omega, by go_num, rfl, FE, hB⟩
            case measure => simp [intOf]; omega
      · have hk' : ((n : Nat) : Int) ≤ (k : Nat) := by omega
        have BW := hid (show Below w.heap.size w wr from B1.out.trans (hB.out.mono z1))
        have FE := hid (show G = ⟨(Pm.pathL (ptsS L)).toArray⟩ by
          have h2 := hO.out
          rw [List.take_of_length_le (by rw [ptsS_len]; have := HN.out; omega)] at h2
          rw [← h2])
        clear pt hT gs
        go_wp2
        go_ret2
        exact ⟨by rw [← FE.out]; rfl, BW.out⟩

end Go.Proofs.YtljfiefobnncaabGreatDoor

/- Reading paths: what stands at a place, blanks, coordinates. -/
namespace Go.Proofs.YtljfiefobnncaabGreatDoor
open Go.RowKit

theorem at_some (s : ByteArray) (k : Nat) (h : k < s.size) : s.data.toList[k]? = some s[k] := by
  rw [List.getElem?_eq_getElem (by simpa using h)]; rfl
theorem atY_none (s : ByteArray) (k : Nat) (h : ¬ k < s.size) : s.data.toList[k]? = none := by
  rw [List.getElem?_eq_none (by simpa using h)]
/-- Does c stand at k? -/
def isAtB (l : List UInt8) (k c : Nat) : Bool := match l[k]? with | some b => ((b.toNat : Int) == (c : Int)) | none => false
theorem isAtB_in (s : ByteArray) (k c : Nat) (h : k < s.size) : isAtB s.data.toList k c = ((s[k].toNat : Int) == (c : Int)) := by unfold isAtB; rw [at_some s k h]
theorem isAtB_out (s : ByteArray) (k c : Nat) (h : ¬ k < s.size) : isAtB s.data.toList k c = false := by unfold isAtB; rw [atY_none s k h]

set_option maxRecDepth 4000 in
set_option maxHeartbeats 400000 in
theorem isAt_any (s : ByteArray) (k c : Nat) (hk : k ≤ 140737488355328) (w : World) :
    Calls Tryz.prog 107 #[.string s, .int .i64 k, .int .u8 c] w fun e w' => e = .returned (.bool (isAtB s.data.toList k c)) ∧ w' = w := by
  have k0' : (0 : Int) ≤ (k : Nat) := by omega
  by_cases h : k < s.size
  · have E := hid (isAtB_in s k c h)
    go_enter Tryz.func107, Tryz.ntmps107
    go_wp2
    go_ret
    exact ⟨ret_bool E.out.symm, rfl⟩
  · have E := hid (isAtB_out s k c h)
    have h' : ((s.size : Nat) : Int) ≤ (k : Nat) := by omega
    go_enter Tryz.func107, Tryz.ntmps107
    go_wp2
    go_ret
    exact ⟨ret_bool E.out.symm, rfl⟩
/-- Does a blank stand at k? -/
def blAt (l : List UInt8) (k : Nat) : Bool := isAtB l k 32 || isAtB l k 10
theorem blAt_in (s : ByteArray) (k : Nat) (h : k < s.size) : blAt s.data.toList k = Pm.blB s[k] := by
  unfold blAt; rw [isAtB_in s k 32 h, isAtB_in s k 10 h, Pm.blB_eq]; rfl
theorem blAt_out (s : ByteArray) (k : Nat) (h : ¬ k < s.size) : blAt s.data.toList k = false := by
  unfold blAt; rw [isAtB_out s k 32 h, isAtB_out s k 10 h]; rfl
theorem blAt_blN (s : ByteArray) (k : Nat) : blAt s.data.toList k = decide (Pm.blN (s.data.toList.drop k) ≠ 0) := by
  by_cases h : k < s.size
  · rw [blAt_in s k h, Pm.blN_step s k h]
    cases e : Pm.blB s[k] <;> simp
  · rw [blAt_out s k h, Pm.blN_end s k (by omega)]; rfl
set_option maxRecDepth 4000 in
set_option maxHeartbeats 400000 in
theorem pIsBlank_any (s : ByteArray) (k : Nat) (hk : k ≤ 140737488355328) (w : World) :
    Calls Tryz.prog 106 #[.string s, .int .i64 k] w fun e w' => e = .returned (.bool (blAt s.data.toList k)) ∧ w' = w := by
  have A1 := hid (fun W => isAt_any s k 32 hk W)
  have A2 := hid (fun W => isAt_any s k 10 hk W)
  have E : Hid (blAt s.data.toList k = (isAtB s.data.toList k 32 || isAtB s.data.toList k 10)) := rfl
  obtain ⟨b2, hb2⟩ : ∃ b, b = isAtB s.data.toList k 10 := ⟨_, rfl⟩
  rw [← hb2] at A2 E
  cases h1 : isAtB s.data.toList k 32
  · rw [h1] at A1 E
    clear h1 hb2
    go_enter Tryz.func106, Tryz.ntmps106
    go_wp2_with fail
    refine (A1.out _).mono ?_
    rintro e w1 ⟨rfl, rfl⟩
    go_wp2_with fail
    refine (A2.out _).mono ?_
    rintro e w2 ⟨rfl, rfl⟩
    go_wp2
    go_ret
    exact ⟨ret_bool (by rw [E.out]; rfl), rfl⟩
  · rw [h1] at A1 E
    clear h1 hb2
    go_enter Tryz.func106, Tryz.ntmps106
    go_wp2_with fail
    refine (A1.out _).mono ?_
    rintro e w1 ⟨rfl, rfl⟩
    go_wp2
    go_ret
    exact ⟨ret_bool (by rw [E.out]; rfl), rfl⟩

set_option maxRecDepth 4000 in
set_option maxHeartbeats 400000 in
theorem pSkip_any (s : ByteArray) (a : Nat) (ha : a ≤ s.size) (hs : s.size ≤ 140737488355328) (w : World) :
    Calls Tryz.prog 80 #[.string s, .int .i64 a] w fun e w' => e = .returned (.int .i64 (Pm.skp s.data.toList a : Nat)) ∧ w' = w := by
  go_enter Tryz.func80, Tryz.ntmps80
  go_wp2_with fail
  go_loop [1] (fun i => ∃ k : Nat, k ≤ s.size ∧ i = .int .i64 k ∧ Hid (Pm.skp s.data.toList a = k + Pm.blN (s.data.toList.drop k))) (fun i => s.size - (intOf i).toNat)
  case atStart => exact ⟨a, ha, rfl, rfl⟩
  case round =>
    obtain ⟨k, hk, rfl, E⟩ := hrel
    have C := hid (fun W => pIsBlank_any s k (by omega) W)
    by_cases hlt : k < s.size
    · have B := hid (blAt_in s k hlt)
      have S := hid (Pm.blN_step s k hlt)
      cases hb : Pm.blB s[k]
      · have F := hid (show Pm.skp s.data.toList a = k by rw [E.out, S.out, hb]; rfl)
        rw [B.out, hb] at C
        clear hb S B
        go_wp2_with fail
        refine (C.out _).mono ?_
        rintro e w1 ⟨rfl, rfl⟩
        go_wp2
        go_ret
        exact ⟨ret_int (by rw [F.out]), rfl⟩
      · have F := hid (show Pm.skp s.data.toList a = k + 1 + Pm.blN (s.data.toList.drop (k + 1)) by rw [E.out, S.out, hb, if_pos rfl]; omega)
        rw [B.out, hb] at C
        clear hb S B
        go_wp2_with fail
        refine (C.out _).mono ?_
        rintro e w1 ⟨rfl, rfl⟩
        go_wp2
        go_round
        case rel => exact ⟨k + 1, by omega, by go_num, F⟩
        case measure => simp [intOf]; omega
    · have B := hid (blAt_out s k hlt)
      have F := hid (show Pm.skp s.data.toList a = k by rw [E.out, Pm.blN_end s k (by omega)]; rfl)
      rw [B.out] at C
      clear B
      go_wp2_with fail
      refine (C.out _).mono ?_
      rintro e w1 ⟨rfl, rfl⟩
      go_wp2
      go_ret
      exact ⟨ret_int (by rw [F.out]), rfl⟩

set_option maxRecDepth 4000 in
set_option maxHeartbeats 400000 in
theorem refSkip_any (s : ByteArray) (a : Nat) (ha : a ≤ s.size) (hs : s.size ≤ 140737488355328) (w : World) :
    Calls Tryz.prog 56 #[.string s, .int .i64 a] w fun e w' => e = .returned (.int .i64 (Pm.skp s.data.toList a : Nat)) ∧ w' = w := by
  go_enter Tryz.func56, Tryz.ntmps56
  go_wp2_with fail
  go_loop [1] (fun i => ∃ k : Nat, k ≤ s.size ∧ i = .int .i64 k ∧ Hid (Pm.skp s.data.toList a = k + Pm.blN (s.data.toList.drop k))) (fun i => s.size - (intOf i).toNat)
  case atStart => exact ⟨a, ha, rfl, rfl⟩
  case round =>
    obtain ⟨k, hk, rfl, E⟩ := hrel
    by_cases hlt : k < s.size
    · have B := hid (Pm.blB_eq s[k])
      have S := hid (Pm.blN_step s k hlt)
      cases q1 : ((s[k].toNat : Int) == 32)
      · cases q2 : ((s[k].toNat : Int) == 10)
        · have F := hid (show Pm.skp s.data.toList a = k by rw [E.out, S.out, B.out, q1, q2]; rfl)
          clear S B
          go_wp2
          go_ret
          exact ⟨ret_int (by rw [F.out]), rfl⟩
        · have F := hid (show Pm.skp s.data.toList a = k + 1 + Pm.blN (s.data.toList.drop (k + 1)) by rw [E.out, S.out, B.out, q1, q2, if_pos (by rfl)]; omega)
          clear S B
          go_wp2
          go_round
          case rel => exact ⟨k + 1, by omega, by go_num, F⟩
          case measure => simp [intOf]; omega
      · have F := hid (show Pm.skp s.data.toList a = k + 1 + Pm.blN (s.data.toList.drop (k + 1)) by rw [E.out, S.out, B.out, q1, if_pos (by rfl)]; omega)
        clear S B
        go_wp2
        go_round
        case rel => exact ⟨k + 1, by omega, by go_num, F⟩
        case measure => simp [intOf]; omega
    · have F := hid (show Pm.skp s.data.toList a = k by rw [E.out, Pm.blN_end s k (by omega)]; rfl)
      go_wp2
      go_ret
      exact ⟨ret_int (by rw [F.out]), rfl⟩

end Go.Proofs.YtljfiefobnncaabGreatDoor

/- Reading paths: coordinates and points. -/
namespace Go.Proofs.YtljfiefobnncaabGreatDoor
open Go.RowKit

/-- What readNumber gives. -/
def rn3 : Except (Int × Nat) (Nat × Nat) → Nat × Nat × Int
  | .ok (n, k) => (n, k, 0)
  | .error (e, p) => (0, p, e)
set_option maxRecDepth 4000 in
set_option maxHeartbeats 1000000 in
theorem pReadNumber_any (s : ByteArray) (i : Nat) (hi : i ≤ s.size) (hs : s.size ≤ 140737488355328) (w : World) :
    Calls Tryz.prog 124 #[.string s, .int .i64 i] w fun e w' => e = .returned (.tuple #[.int .i64 (rn3 (Pm.crd s.data.toList i)).1, .int .i64 (rn3 (Pm.crd s.data.toList i)).2.1, .int .i64 (rn3 (Pm.crd s.data.toList i)).2.2]) ∧ w' = w := by
  have SK := hid (fun W => pSkip_any s i hi hs W)
  have kl := Pm.skp_le (l := s.data.toList) (i := i) (by simpa using hi)
  have CR : Hid (Pm.crd s.data.toList i = if Pm.numC (s.data.toList.drop (Pm.skp s.data.toList i)) = 0 then .error (Pm.lackE s.data.toList.length (Pm.skp s.data.toList i), Pm.skp s.data.toList i) else if 32 < Pm.numV 0 (s.data.toList.drop (Pm.skp s.data.toList i)) then .error (3, Pm.skp s.data.toList i) else .ok (Pm.numV 0 (s.data.toList.drop (Pm.skp s.data.toList i)), Pm.skp s.data.toList i + Pm.numC (s.data.toList.drop (Pm.skp s.data.toList i)))) := rfl
  have ls : s.data.toList.length = s.size := by simp
  rw [ls] at CR kl
  clear ls
  obtain ⟨k, hk⟩ : ∃ k, k = Pm.skp s.data.toList i := ⟨_, rfl⟩
  rw [← hk] at SK kl CR
  clear hk
  have SN := hid (fun W => scanNumber_any s k kl hs W)
  have WR := hid (fun W => wrongAt_any s k W)
  have vb := Pm.numV_le (s.data.toList.drop k) 0 (by omega)
  obtain ⟨n, hn⟩ : ∃ n, n = Pm.numV 0 (s.data.toList.drop k) := ⟨_, rfl⟩
  obtain ⟨m, hm⟩ : ∃ m, m = Pm.numC (s.data.toList.drop k) := ⟨_, rfl⟩
  rw [← hn] at SN CR vb
  rw [← hm] at SN CR
  clear hn hm
  obtain ⟨E, hE⟩ : ∃ E, E = Pm.lackE s.size k := ⟨_, rfl⟩
  rw [← hE] at WR CR
  clear hE
  obtain ⟨c, hc⟩ : ∃ c, c = Pm.crd s.data.toList i := ⟨_, rfl⟩
  rw [← hc] at CR ⊢
  clear hc
  by_cases m0 : m = 0
  · have C2 := hid (show rn3 c = (0, k, E) by rw [CR.out, if_pos m0]; rfl)
    have b0 : (((k + m : Nat) : Int) == (k : Int)) = true := beq_iff_eq.2 (by omega)
    rw [C2.out]
    clear m0
    go_enter Tryz.func124, Tryz.ntmps124
    go_wp2_with (first | (go_at_call 80; refine (SK.out _).mono ?_; rintro e w' ⟨rfl, rfl⟩) | (go_at_call 126; refine (SN.out _).mono ?_; rintro e w' ⟨rfl, rfl⟩) | (go_at_call 109; refine (WR.out _).mono ?_; rintro e w' ⟨rfl, rfl⟩))
    go_ret3
    exact ⟨rfl, rfl⟩
  · have b0 : (((k + m : Nat) : Int) == (k : Int)) = false := beq_eq_false_iff_ne.2 (by omega)
    by_cases n1 : 32 < n
    · have C2 := hid (show rn3 c = (0, k, 3) by rw [CR.out, if_neg m0, if_pos n1]; rfl)
      rw [C2.out]
      clear m0
      go_enter Tryz.func124, Tryz.ntmps124
      go_wp2_with (first | (go_at_call 80; refine (SK.out _).mono ?_; rintro e w' ⟨rfl, rfl⟩) | (go_at_call 126; refine (SN.out _).mono ?_; rintro e w' ⟨rfl, rfl⟩) | fail)
      go_ret3
      exact ⟨rfl, rfl⟩
    · have C2 := hid (show rn3 c = (n, k + m, 0) by rw [CR.out, if_neg m0, if_neg n1]; rfl)
      rw [C2.out]
      clear m0
      go_enter Tryz.func124, Tryz.ntmps124
      go_wp2_with (first | (go_at_call 80; refine (SK.out _).mono ?_; rintro e w' ⟨rfl, rfl⟩) | (go_at_call 126; refine (SN.out _).mono ?_; rintro e w' ⟨rfl, rfl⟩) | fail)
      go_ret3
      exact ⟨rfl, rfl⟩

/-- What coordinate gives. -/
def rn4 : Except (Int × Nat) (Nat × Nat) → Nat × Nat × Int × Nat
  | .ok (n, k) => (n, k, 0, 0)
  | .error (e, p) => (0, 0, e, p)
set_option maxRecDepth 4000 in
set_option maxHeartbeats 1000000 in
theorem coordinate_any (s : ByteArray) (i : Nat) (hi : i ≤ s.size) (hs : s.size ≤ 140737488355328) (w : World) :
    Calls Tryz.prog 82 #[.string s, .int .i64 i] w fun e w' => e = .returned (.tuple #[.int .i64 (rn4 (Pm.crd s.data.toList i)).1, .int .i64 (rn4 (Pm.crd s.data.toList i)).2.1, .int .i64 (rn4 (Pm.crd s.data.toList i)).2.2.1, .int .i64 (rn4 (Pm.crd s.data.toList i)).2.2.2]) ∧ w' = w := by
  have SK := hid (fun W => refSkip_any s i hi hs W)
  have kl := Pm.skp_le (l := s.data.toList) (i := i) (by simpa using hi)
  have CR : Hid (Pm.crd s.data.toList i = if Pm.numC (s.data.toList.drop (Pm.skp s.data.toList i)) = 0 then .error (Pm.lackE s.data.toList.length (Pm.skp s.data.toList i), Pm.skp s.data.toList i) else if 32 < Pm.numV 0 (s.data.toList.drop (Pm.skp s.data.toList i)) then .error (3, Pm.skp s.data.toList i) else .ok (Pm.numV 0 (s.data.toList.drop (Pm.skp s.data.toList i)), Pm.skp s.data.toList i + Pm.numC (s.data.toList.drop (Pm.skp s.data.toList i)))) := rfl
  have ls : s.data.toList.length = s.size := by simp
  rw [ls] at CR kl
  clear ls
  obtain ⟨k, hk⟩ : ∃ k, k = Pm.skp s.data.toList i := ⟨_, rfl⟩
  rw [← hk] at SK kl CR
  clear hk
  have SN := hid (fun W => number_any s k kl hs W)
  have WR := hid (fun W => lacks_any s k kl W)
  have vb := Pm.numV_le (s.data.toList.drop k) 0 (by omega)
  obtain ⟨n, hn⟩ : ∃ n, n = Pm.numV 0 (s.data.toList.drop k) := ⟨_, rfl⟩
  obtain ⟨m, hm⟩ : ∃ m, m = Pm.numC (s.data.toList.drop k) := ⟨_, rfl⟩
  rw [← hn] at SN CR vb
  rw [← hm] at SN CR
  clear hn hm
  obtain ⟨E, hE⟩ : ∃ E, E = Pm.lackE s.size k := ⟨_, rfl⟩
  rw [← hE] at WR CR
  clear hE
  obtain ⟨c, hc⟩ : ∃ c, c = Pm.crd s.data.toList i := ⟨_, rfl⟩
  rw [← hc] at CR ⊢
  clear hc
  by_cases m0 : m = 0
  · have C2 := hid (show rn4 c = (0, 0, E, k) by rw [CR.out, if_pos m0]; rfl)
    have b0 : (((k + m : Nat) : Int) == (k : Int)) = true := beq_iff_eq.2 (by omega)
    rw [C2.out]
    clear m0
    go_enter Tryz.func82, Tryz.ntmps82
    go_wp2_with (first | (go_at_call 56; refine (SK.out _).mono ?_; rintro e w' ⟨rfl, rfl⟩) | (go_at_call 63; refine (SN.out _).mono ?_; rintro e w' ⟨rfl, rfl⟩) | (go_at_call 35; refine (WR.out _).mono ?_; rintro e w' ⟨rfl, rfl⟩))
    refine bodyPost_ret (results_tmp4 Tryz.results82 _ _ _) rfl ?_
    exact ⟨rfl, rfl⟩
  · have b0 : (((k + m : Nat) : Int) == (k : Int)) = false := beq_eq_false_iff_ne.2 (by omega)
    by_cases n1 : 32 < n
    · have C2 := hid (show rn4 c = (0, 0, 3, k) by rw [CR.out, if_neg m0, if_pos n1]; rfl)
      rw [C2.out]
      clear m0
      go_enter Tryz.func82, Tryz.ntmps82
      go_wp2_with (first | (go_at_call 56; refine (SK.out _).mono ?_; rintro e w' ⟨rfl, rfl⟩) | (go_at_call 63; refine (SN.out _).mono ?_; rintro e w' ⟨rfl, rfl⟩) | fail)
      refine bodyPost_ret (results_tmp4 Tryz.results82 _ _ _) rfl ?_
      exact ⟨rfl, rfl⟩
    · have C2 := hid (show rn4 c = (n, k + m, 0, 0) by rw [CR.out, if_neg m0, if_neg n1]; rfl)
      rw [C2.out]
      clear m0
      go_enter Tryz.func82, Tryz.ntmps82
      go_wp2_with (first | (go_at_call 56; refine (SK.out _).mono ?_; rintro e w' ⟨rfl, rfl⟩) | (go_at_call 63; refine (SN.out _).mono ?_; rintro e w' ⟨rfl, rfl⟩) | fail)
      refine bodyPost_ret (results_tmp4 Tryz.results82 _ _ _) rfl ?_
      exact ⟨rfl, rfl⟩

end Go.Proofs.YtljfiefobnncaabGreatDoor
