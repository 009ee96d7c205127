import Derived.Test.YtljfiefobnncaabDoorK11
import Derived.Laws.BytesArg
import Derived.Test.YtljfiefobnncaabDoorK10

/- Writing paths: the whole; outline.Path. -/
namespace Go.Proofs.YtljfiefobnncaabDoor
open Go.RowKit

/-- The points of the shapes. -/
def ptsS (L : List ShT) : List (List (Int × Int)) := L.map (·.1)
theorem ptsS_len (L : List ShT) : (ptsS L).length = L.length := by simp [ptsS]
theorem ptsS_at (L : List ShT) (i : Nat) : (ptsS L).getD i [] = (L.getD i sh0).1 := by
  unfold ptsS
  rw [List.getD_eq_getElem?_getD, List.getD_eq_getElem?_getD, List.getElem?_map]
  cases L[i]? <;> rfl
/-- What writing answers. -/
def pathOut (L : List ShT) : Value := if plB L = true then .tuple #[.string ⟨(Pm.pathL (ptsS L)).toArray⟩, .int .i64 0] else .tuple #[.string ⟨#[]⟩, .int .i64 4]
theorem shL_pos (l : List (Int × Int)) : 0 < (Pm.shL l).length := by unfold Pm.shL; simp

set_option maxRecDepth 4000 in
set_option maxHeartbeats 2000000 in
theorem pWrite_any (ao : Option Addr) (n cap : Nat) (L : List ShT) (hn : n = L.length) (hn2 : n ≤ 1073741824) (hm : ∀ i, (L.getD i sh0).1.length ≤ 1073741824) (hT : (Pm.pathL (ptsS L)).length ≤ 1073741824) (w : World) (hS : ShIs ao L w) :
    Calls Tryd.prog 15 #[.slice ao n cap] w fun e w' => e = .returned (pathOut L) ∧ Below w.heap.size w w' := by
  obtain ⟨i0, hi, hz0, hz1, hz2⟩ := info_parts infoByte
  have MB := hid (shapesMay_any ao n cap L hn (by omega) (fun i => by have := hm i; omega) w hS)
  have HS := hid hS
  have HM := hid hm
  have HN := hid hn
  have HT := hid hT
  clear hS hm hn hT
  cases hp : plB L
  · rw [hp] at MB
    have PO := hid (show pathOut L = .tuple #[.string ⟨#[]⟩, .int .i64 4] by unfold pathOut; rw [hp]; rfl)
    rw [PO.out]
    clear hp PO
    go_enter Tryd.func15, Tryd.ntmps15
    go_wp2_with fail
    refine MB.out.mono ?_
    rintro e w1 ⟨rfl, hb⟩
    have HB := hid hb
    clear hb
    go_wp2
    go_ret2
    exact ⟨rfl, HB.out⟩
  · rw [hp] at MB
    have PO := hid (show pathOut L = .tuple #[.string ⟨(Pm.pathL (ptsS L)).toArray⟩, .int .i64 0] by unfold pathOut; rw [hp]; rfl)
    have HP := hid hp
    rw [PO.out]
    clear hp PO
    go_enter Tryd.func15, Tryd.ntmps15
    go_wp2_with fail
    refine MB.out.mono ?_
    rintro e w1 ⟨rfl, hb⟩
    have B1 := hid hb
    have z1 := hb.size
    have S1 := hid (HS.out.on hb)
    clear hb
    go_wp2_with fail
    go_loopw [4, 5] (fun v iv wr => ∃ (k : Nat), k ≤ n ∧ iv = .int .i64 k ∧ Hid (wr.ownsRow w1.heap.size 5 1 v (Pm.pathL ((ptsS L).take k)).length (cellsOf (Pm.pathL ((ptsS L).take k)))) ∧ Hid (Below w1.heap.size w1 wr)) (fun _ i _ => n - (intOf i).toNat)
    case atStart => exact ⟨0, by omega, rfl, World.ownsRow_nil _ _ _ _, Below.refl _ _⟩
    case round =>
      obtain ⟨k, hk, rfl, hO, hB⟩ := hrel
      have hz := hB.out.size
      have pt := Pm.pathL_take (ptsS L) k
      have pt1 := Pm.pathL_take (ptsS L) (k + 1)
      have hT := HT.out
      obtain ⟨av, cv, hv⟩ := own_len hO.out
      subst hv
      by_cases hlt : k < n
      · obtain ⟨gl, o, rfl, hgl, hc⟩ := S1.out.resolve_left (by have := HN.out; omega)
        obtain ⟨ap, cp, c0, c1, c2⟩ := hc k (by have := HN.out; omega)
        have r0 := (hB.out.cell (p := ⟨gl, o + k * 2, none⟩) hgl).trans c0
        have k0' : (0 : Int) ≤ (k : Nat) := by omega
        have k1' : ((k : Nat) : Int) < (n : Nat) := by omega
        have OS := okSh_small (all_at sh0 HP.out (i := k) (by have := HN.out; omega))
        have hmk := HM.out k
        have SN := hid (show Pm.pathL ((ptsS L).take (k + 1)) = Pm.pathL ((ptsS L).take k) ++ Pm.shL (L.getD k sh0).1 by rw [take_snocY (ptsS L) k [] (by rw [ptsS_len]; have := HN.out; omega), Pm.pathL_snoc, ptsS_at])
        obtain ⟨s, hs⟩ : ∃ s, s = L.getD k sh0 := ⟨_, rfl⟩
        rw [← hs] at r0 c2 hmk OS SN
        obtain ⟨m, hmm⟩ : ∃ m, m = s.1.length := ⟨_, rfl⟩
        rw [← hmm] at r0 c2 hmk OS
        obtain ⟨g, q, rfl, hp⟩ := c2.resolve_left (by omega)
        have ST := hid (fun W' (h : Below w1.heap.size w1 W') => shapeText_any g q m cp s.1 hmm OS.1 OS.2 hmk W' (hp.on h hp.1))
        have ln := congrArg List.length SN.out
        rw [List.length_append] at ln
        obtain ⟨t, ht⟩ : ∃ t, t = Pm.shL s.1 := ⟨_, rfl⟩
        rw [← ht] at ST SN ln
        obtain ⟨b, hb⟩ : ∃ b, b = Pm.pathL ((ptsS L).take k) := ⟨_, rfl⟩
        rw [← hb] at SN hO pt ln ⊢
        clear hc c0 c1 hs c2 hp hmm OS ht hb
        go_wp2_with fail
        refine (ST.out _ hB.out).mono ?_
        rintro e w2 ⟨rfl, hb2⟩
        have B2 := hid (show Below w1.heap.size w1 w2 from hB.out.trans (hb2.mono hz))
        have O2 := hid (own_below hO.out hb2)
        have s2 := B2.out.size
        have ts : (⟨t.toArray⟩ : ByteArray).size = t.length := by simp [ByteArray.size]
        have m3 : b.length + (⟨t.toArray⟩ : ByteArray).size ≤ maxLen := by rw [ts]; unfold maxLen; omega
        have m4 : b.length + (⟨t.toArray⟩ : ByteArray).size ≤ 140737488355328 := by rw [ts]; omega
        clear hb2 r0
        go_wp2_with (first
          | (refine Go.Lib.wpList_append_own_string _ rfl _ _ 44 9 rfl w1.heap.size 5 i0 Tryd.underlying44 Tryd.underlying9 hi hz0 hz1 hz2 _ _ _ rfl O2.out ⟨t.toArray⟩ rfl m3 m4 s2 ?_))
        intro v4 w4 o4 g4 _
        have B4 := hid (show Below w1.heap.size w1 w4 from B2.out.grown g4 s2 (fun k hk => (O2.out.lt k hk).1))
        have O4 := hid (show w4.ownsRow w1.heap.size 5 1 v4 (Pm.pathL ((ptsS L).take (k + 1))).length (cellsOf (Pm.pathL ((ptsS L).take (k + 1)))) by
          have e2 : cellsOf (Pm.pathL ((ptsS L).take (k + 1))) = cellsOf b ++ Go.Lib.strCells ⟨t.toArray⟩ := by rw [SN.out]; simp [cellsOf, Go.Lib.strCells]
          rw [ln, e2]; exact o4)
        clear o4 g4
        go_wp2
        go_roundw
        case rel => exact ⟨k + 1, by omega, by go_num, O4, B4⟩
        case measure => simp [intOf]; omega
      · have ek : k = n := by omega
        have hk' : ((n : Nat) : Int) ≤ (k : Nat) := by omega
        have BW := hid (show Below w.heap.size w wr from B1.out.trans (hB.out.mono z1))
        have FE := hid (show (ptsS L).take k = ptsS L by rw [List.take_of_length_le (by rw [ptsS_len]; have := HN.out; omega)])
        rw [FE.out] at hO ⊢
        obtain ⟨b, hb⟩ : ∃ b, b = Pm.pathL (ptsS L) := ⟨_, rfl⟩
        rw [← hb] at hO ⊢
        have HBE := hid hb
        have hown := hO.out
        clear hb ek pt pt1 hT
        rcases hown.2 with ⟨hnil, h0⟩ | ⟨g', cap', cur, hv2, -, -, -, -, -, -⟩
        · have eb : b = [] := List.length_eq_zero_iff.1 h0
          subst eb
          injection hnil with e1 e2 e3
          subst e1
          subst e3
          have hcv := run_convert_bytes_nil (P := Tryd.prog) wr 44 5 Tryd.underlying44 Tryd.underlying5 0 0 9 Tryd.underlying9
          clear hown
          go_wp2
          go_ret2
          exact ⟨by rw [← HBE.out]; rfl, BW.out⟩
        · injection hv2 with e1 e2 e3
          subst e1
          subst e3
          have hcv := run_convert_bytes_back (P := Tryd.prog) wr 44 9 5 ⟨g', 0, none⟩ cv b Tryd.underlying44 Tryd.underlying5 Tryd.underlying9 (fun j hj => hown.cells (g := g') rfl j _ (by simp [cellsOf, hj]))
          clear hown
          go_wp2
          go_ret2
          exact ⟨by rw [← HBE.out]; rfl, BW.out⟩

set_option maxRecDepth 4000 in
set_option maxHeartbeats 400000 in
theorem path_any (ao : Option Addr) (n cap : Nat) (L : List ShT) (hn : n = L.length) (hn2 : n ≤ 1073741824) (hm : ∀ i, (L.getD i sh0).1.length ≤ 1073741824) (hT : (Pm.pathL (ptsS L)).length ≤ 1073741824) (w : World) (hS : ShIs ao L w) :
    Calls Tryd.prog 8 #[.slice ao n cap] w fun e w' => e = .returned (pathOut L) ∧ Below w.heap.size w w' := by
  have PF := hid (pWrite_any ao n cap L hn hn2 hm hT w hS)
  have h : ∃ (c : ByteArray) (d : Int), pathOut L = .tuple #[.string c, .int .i64 d] := by unfold pathOut; split <;> exact ⟨_, _, rfl⟩
  obtain ⟨c, d, e⟩ := h
  rw [e] at PF ⊢
  clear e hS hm hn hT
  go_enter Tryd.func8, Tryd.ntmps8
  go_wp2_with fail
  refine PF.out.mono ?_
  rintro e X ⟨rfl, hb1⟩
  have XB := hid hb1
  clear hb1
  go_wp2
  go_ret2
  exact ⟨rfl, XB.out⟩

end Go.Proofs.YtljfiefobnncaabDoor

/- Plain facts on the pixels of a P1 file and of a P4 file. -/
namespace Go.Proofs.YtljfiefobnncaabDoor.Pm

/-- n pixels of a P1 file: the pixels, how many bytes, and whether all are there. -/
def plainL : List UInt8 → Nat → List UInt8 × Nat × Bool
  | _, 0 => ([], 0, true)
  | [], _ + 1 => ([], 0, false)
  | c :: r, n + 1 =>
    if blankB c = true then ((plainL r (n + 1)).1, (plainL r (n + 1)).2.1 + 1, (plainL r (n + 1)).2.2)
    else if okPix c = true then (c :: (plainL r n).1, (plainL r n).2.1 + 1, (plainL r n).2.2)
    else ([], 0, false)
def cat (B : List UInt8) (d : Nat) (r : List UInt8 × Nat × Bool) : List UInt8 × Nat × Bool := (B ++ r.1, d + r.2.1, r.2.2)
/-- Behind the pixels B one stands at k. -/
def PlainAt (l : List UInt8) (a n : Nat) (B : List UInt8) (k : Nat) : Prop :=
  B.length ≤ n ∧ a ≤ k ∧ k ≤ l.length ∧ plainL (l.drop a) n = cat B (k - a) (plainL (l.drop k) (n - B.length))
theorem PlainAt.start (l : List UInt8) (a n : Nat) (ha : a ≤ l.length) : PlainAt l a n [] a := by
  refine ⟨Nat.zero_le _, Nat.le_refl _, ha, ?_⟩
  simp [cat]
theorem PlainAt.blank {s : ByteArray} {a n k : Nat} {B : List UInt8} (h : PlainAt s.data.toList a n B k) (hk : k < s.size) (hb : blankB s[k] = true) (hB : B.length < n) : PlainAt s.data.toList a n B (k + 1) := by
  obtain ⟨h1, h2, h3, h4⟩ := h
  refine ⟨h1, by omega, by simpa using Nat.succ_le_of_lt hk, ?_⟩
  rw [h4, drop_at s k hk]
  obtain ⟨m, hm⟩ : ∃ m, n - B.length = m + 1 := ⟨n - B.length - 1, by omega⟩
  rw [hm, plainL, if_pos hb, cat, cat, show k + 1 - a = k - a + 1 from by omega]
  simp only [Prod.mk.injEq, and_true, true_and]
  omega
theorem PlainAt.skip {s : ByteArray} {a n : Nat} {B : List UInt8} (hB : B.length < n) : ∀ (j k : Nat), PlainAt s.data.toList a n B k → j = blanks (s.data.toList.drop k) → PlainAt s.data.toList a n B (k + j)
  | 0, k, h, _ => h
  | j + 1, k, h, hj => by
    by_cases hk : k < s.size
    · rw [blanks_step s k hk] at hj
      by_cases hb : blankB s[k] = true
      · rw [if_pos hb] at hj
        have := PlainAt.skip hB j (k + 1) (h.blank hk hb hB) (by omega)
        rwa [show k + (j + 1) = k + 1 + j from by omega]
      · rw [if_neg hb] at hj; omega
    · rw [blanks_end s k (by omega)] at hj; omega
theorem PlainAt.pix {s : ByteArray} {a n k : Nat} {B : List UInt8} (h : PlainAt s.data.toList a n B k) (hk : k < s.size) (hb : blankB s[k] = false) (hp : okPix s[k] = true) (hB : B.length < n) : PlainAt s.data.toList a n (B ++ [s[k]]) (k + 1) := by
  obtain ⟨h1, h2, h3, h4⟩ := h
  refine ⟨by simp; omega, by omega, by simpa using Nat.succ_le_of_lt hk, ?_⟩
  rw [h4, drop_at s k hk]
  obtain ⟨m, hm⟩ : ∃ m, n - B.length = m + 1 := ⟨n - B.length - 1, by omega⟩
  rw [hm, plainL, if_neg (by simp [hb]), if_pos hp, cat, cat, show k + 1 - a = k - a + 1 from by omega, List.length_append, List.length_cons, List.length_nil, show n - (B.length + (0 + 1)) = m from by omega]
  simp only [Prod.mk.injEq, and_true, List.append_assoc, List.cons_append, List.nil_append, true_and]
  omega
theorem PlainAt.done {l : List UInt8} {a n k : Nat} {B : List UInt8} (h : PlainAt l a n B k) (hB : B.length = n) : plainL (l.drop a) n = (B, k - a, true) := by
  rw [h.2.2.2, hB, Nat.sub_self]
  cases l.drop k <;> simp [plainL, cat]
theorem PlainAt.bad {s : ByteArray} {a n k : Nat} {B : List UInt8} (h : PlainAt s.data.toList a n B k) (hB : B.length < n) (hk : ∀ h : k < s.size, blankB s[k] = false ∧ okPix s[k] = false) : plainL (s.data.toList.drop a) n = (B, k - a, false) := by
  obtain ⟨h1, h2, h3, h4⟩ := h
  obtain ⟨m, hm⟩ : ∃ m, n - B.length = m + 1 := ⟨n - B.length - 1, by omega⟩
  rw [h4, hm]
  by_cases hlt : k < s.size
  · rw [drop_at s k hlt, plainL, if_neg (by simp [(hk hlt).1]), if_neg (by simp [(hk hlt).2])]; simp [cat]
  · rw [drop_end s k (by omega), plainL]; simp [cat]
theorem blanks_stop (s : ByteArray) : ∀ (j k : Nat), j = blanks (s.data.toList.drop k) → ∀ h : k + j < s.size, blankB s[k + j] = false
  | 0, k, hj, h => by
    rw [blanks_step s k h] at hj
    by_cases hb : blankB s[k] = true
    · rw [if_pos hb] at hj; omega
    · simpa using hb
  | j + 1, k, hj, h => by
    by_cases hk : k < s.size
    · rw [blanks_step s k hk] at hj
      by_cases hb : blankB s[k] = true
      · rw [if_pos hb] at hj
        have := blanks_stop s j (k + 1) (by omega) (by omega)
        simpa [show k + (j + 1) = k + 1 + j from by omega] using this
      · rw [if_neg hb] at hj; omega
    · omega
theorem okPix_blank {c : UInt8} (h : okPix c = true) : blankB c = false := by
  have : ∀ c : UInt8, okPix c = true → blankB c = false := by
    intro c h
    simp only [okPix, Bool.or_eq_true, beq_iff_eq] at h
    rcases h with rfl | rfl <;> rfl
  exact this c h
/-- What the pixels of a P1 file give: the pixels, where they end or what is wrong stands, the error. -/
def plainOut (l : List UInt8) (a n : Nat) (bits : List UInt8) (p : Nat) (e : Int) : Prop :=
  ((plainL (l.drop a) n).2.2 = true ∧ bits = (plainL (l.drop a) n).1 ∧ p = a + (plainL (l.drop a) n).2.1 ∧ e = 0) ∨
  ((plainL (l.drop a) n).2.2 = false ∧ bits = [] ∧ p = a + (plainL (l.drop a) n).2.1 ∧ e = lackE l.length (a + (plainL (l.drop a) n).2.1))
theorem PlainAt.out_yes {l : List UInt8} {a n k : Nat} {B : List UInt8} (h : PlainAt l a n B k) (hB : B.length = n) : plainOut l a n B k 0 := by
  have e := h.done hB
  have h2 := h.2.1
  refine .inl ?_
  rw [e]
  exact ⟨rfl, rfl, by simp only; omega, rfl⟩
theorem PlainAt.out_no {s : ByteArray} {a n k : Nat} {B : List UInt8} (h : PlainAt s.data.toList a n B k) (hB : B.length < n) (hk : ∀ h : k < s.size, blankB s[k] = false ∧ okPix s[k] = false) : plainOut s.data.toList a n [] k (lackE s.size k) := by
  have e := h.bad hB hk
  have h2 := h.2.1
  refine .inr ?_
  rw [e]
  refine ⟨rfl, rfl, by simp only; omega, ?_⟩
  simp only [show a + (k - a) = k from by omega]
  simp
theorem one_cut (F s : ByteArray) (B : List UInt8) (k : Nat) (hk : k < s.size) (h : F.data.toList = B) : (F ++ s.extract k (k + 1)).data.toList = B ++ [s[k]] := by
  have e : s.data.toList.take (k + 1) = s.data.toList.take k ++ [s[k]] := by rw [List.take_succ_eq_append_getElem (by simpa using hk)]; rfl
  simp only [ByteArray.data_append, Array.toList_append, h, ByteArray.data_extract, Array.toList_extract, List.extract_eq_take_drop]
  congr 1
  rw [drop_at s k hk, show k + 1 - k = 1 from by omega]; rfl
theorem size_of_data (F : ByteArray) (B : List UInt8) (h : F.data.toList = B) : F.size = B.length := by rw [← h]; simp
/-- Bit j of a byte, the highest being bit 0. -/
def bitOf (c : UInt8) (j : Nat) : Nat := c.toNat / 2 ^ (7 - j) % 2
theorem bitOf_le (c : UInt8) (j : Nat) : bitOf c j ≤ 1 := by unfold bitOf; omega
theorem and_one_u8 : ∀ a : Fin 256, bits BinOp.and IntKind.u8 (a.val : Int) 1 = ((a.val % 2 : Nat) : Int) := by decide +kernel
theorem bit_walk (c : UInt8) (j : Nat) : bits BinOp.and IntKind.u8 ((c.toNat : Int) / 2 ^ (7 - j)) 1 = (bitOf c j : Int) := by
  have h : (c.toNat : Int) / 2 ^ (7 - j) = ((c.toNat / 2 ^ (7 - j) : Nat) : Int) := by simp
  have lt : c.toNat / 2 ^ (7 - j) < 256 := Nat.lt_of_le_of_lt (Nat.div_le_self _ _) c.toNat_lt
  rw [h]
  exact and_one_u8 ⟨c.toNat / 2 ^ (7 - j), lt⟩
/-- The byte of pixel x of a row that begins at place b. -/
def pixAt (l : List UInt8) (b x : Nat) : UInt8 := UInt8.ofNat (48 + bitOf (l.getD (b + x / 8) 0) (x % 8))
theorem pixAt_toNat (l : List UInt8) (b x : Nat) : (pixAt l b x).toNat = 48 + bitOf (l.getD (b + x / 8) 0) (x % 8) := by
  have := bitOf_le (l.getD (b + x / 8) 0) (x % 8)
  simp only [pixAt, UInt8.toNat_ofNat']; omega
/-- The first x pixels of a row that begins at place b. -/
def rowTo (l : List UInt8) (b x : Nat) : List UInt8 := (List.range x).map (pixAt l b)
theorem rowTo_succ (l : List UInt8) (b x : Nat) : rowTo l b (x + 1) = rowTo l b x ++ [pixAt l b x] := by simp [rowTo, List.range_succ]
theorem rowTo_length (l : List UInt8) (b x : Nat) : (rowTo l b x).length = x := by simp [rowTo]
theorem getD_at (s : ByteArray) (k : Nat) (hk : k < s.size) : s.data.toList.getD k 0 = s[k] := by
  rw [List.getD_eq_getElem?_getD, List.getElem?_eq_getElem (by simpa using hk)]; rfl
/-- The first y rows, r bytes each, from place b on. -/
def rowsTo (l : List UInt8) (b r w y : Nat) : List UInt8 := (List.range y).flatMap fun y => rowTo l (b + y * r) w
theorem rowsTo_succ (l : List UInt8) (b r w y : Nat) : rowsTo l b r w (y + 1) = rowsTo l b r w y ++ rowTo l (b + y * r) w := by simp [rowsTo, List.range_succ]
theorem rowsTo_length (l : List UInt8) (b r w : Nat) : ∀ y, (rowsTo l b r w y).length = y * w
  | 0 => by simp [rowsTo]
  | y + 1 => by rw [rowsTo_succ, List.length_append, rowsTo_length l b r w y, rowTo_length, Nat.add_mul]; omega
/-- A row's pixels out of the bytes cut out for it. -/
theorem rowTo_cut (s : ByteArray) (b c w : Nat) (hc : w ≤ 8 * (c - b)) : rowTo (s.extract b c).data.toList 0 w = rowTo s.data.toList b w := by
  simp only [rowTo]
  apply List.map_congr_left
  intro x hx
  have hx := List.mem_range.1 hx
  simp only [pixAt, Nat.zero_add]
  congr 3
  rw [List.getD_eq_getElem?_getD, List.getD_eq_getElem?_getD]
  congr 1
  simp only [ByteArray.data_extract, Array.toList_extract, List.extract_eq_take_drop, List.getElem?_take, List.getElem?_drop]
  rw [if_pos (by omega)]
theorem half_step (c z m : Nat) (hm : m ≤ z) : c / 2 ^ (z - m) / 2 = c / 2 ^ (z + 1 - m) := by
  rw [Nat.div_div_eq_div_mul, ← Nat.pow_succ, show (z - m).succ = z + 1 - m from by omega]
theorem itoaL_bit (b : Nat) (h : b ≤ 1) : itoaL b = [UInt8.ofNat (48 + b)] := by
  rcases (show b = 0 ∨ b = 1 from by omega) with rfl | rfl <;> rfl
theorem pix_data (s G : ByteArray) (p : List UInt8) (b x k v : Nat) (hG : G.data.toList = p ++ rowTo s.data.toList b x) (hk : k < s.size) (hkb : k = b + x / 8) (hv : v = s[k].toNat / 2 ^ (7 - x % 8)) : (G ++ ⟨(itoaL (v % 2)).toArray⟩).data.toList = p ++ rowTo s.data.toList b (x + 1) := by
  have e : v % 2 = bitOf s[k] (x % 8) := by rw [hv, bitOf]
  have e2 : pixAt s.data.toList b x = UInt8.ofNat (48 + bitOf s[k] (x % 8)) := by rw [pixAt, ← hkb, getD_at s k hk]
  rw [rowTo_succ, e2, e, itoaL_bit _ (bitOf_le _ _)]
  simp [hG]
/-- What the pixels of a P4 file give. -/
def packedOut (l : List UInt8) (a w h : Nat) (bits : List UInt8) (p : Nat) (e : Int) : Prop :=
  ((∀ c, l[a]? = some c → blankB c = false) ∧ bits = [] ∧ p = a ∧ e = lackE l.length a) ∨
  ((∃ c, l[a]? = some c ∧ blankB c = true) ∧ l.length < a + 1 + (w + 7) / 8 * h ∧ bits = [] ∧ p = l.length ∧ e = 2) ∨
  ((∃ c, l[a]? = some c ∧ blankB c = true) ∧ a + 1 + (w + 7) / 8 * h ≤ l.length ∧ bits = rowsTo l (a + 1) ((w + 7) / 8) w h ∧ p = a + 1 + (w + 7) / 8 * h ∧ e = 0)
end Go.Proofs.YtljfiefobnncaabDoor.Pm

/- Plain facts on a whole file: what Read answers. -/
namespace Go.Proofs.YtljfiefobnncaabDoor.Pm

/-- The two letters ahead. -/
def kindOut (l : List UInt8) (c : UInt8) (p : Nat) (e : Int) : Prop :=
  ((∀ x, l[0]? = some x → ¬ (x.toNat : Int) = 80) ∧ c = 0 ∧ p = 0 ∧ e = lackE l.length 0) ∨
  ((∃ x, l[0]? = some x ∧ (x.toNat : Int) = 80) ∧ (∀ x, l[1]? = some x → ¬ (x.toNat : Int) = 49 ∧ ¬ (x.toNat : Int) = 52) ∧ c = 0 ∧ p = 1 ∧ e = lackE l.length 1) ∨
  ((∃ x, l[0]? = some x ∧ (x.toNat : Int) = 80) ∧ l[1]? = some c ∧ ((c.toNat : Int) = 49 ∨ (c.toNat : Int) = 52) ∧ p = 2 ∧ e = 0)
/-- All that stands ahead of the pixels. -/
def headOut (l : List UInt8) (c : UInt8) (n m p : Nat) (e : Int) : Prop :=
  ∃ c0 p0 e0, kindOut l c0 p0 e0 ∧
    ((e0 ≠ 0 ∧ c = 0 ∧ n = 0 ∧ m = 0 ∧ p = p0 ∧ e = e0) ∨
     (e0 = 0 ∧ ∃ n1 p1 e1, sideOut l p0 n1 p1 e1 ∧
       ((e1 ≠ 0 ∧ c = 0 ∧ n = 0 ∧ m = 0 ∧ p = p1 ∧ e = e1) ∨
        (e1 = 0 ∧ ∃ n2 p2 e2, sideOut l p1 n2 p2 e2 ∧
          ((e2 ≠ 0 ∧ c = 0 ∧ n = 0 ∧ m = 0 ∧ p = p2 ∧ e = e2) ∨ (e2 = 0 ∧ c = c0 ∧ n = n1 ∧ m = n2 ∧ p = p2 ∧ e = 0))))))
/-- The pixels, by the kind of the file. -/
def pixOut (c : UInt8) (l : List UInt8) (a w h : Nat) (bits : List UInt8) (p : Nat) (e : Int) : Prop :=
  ((c.toNat : Int) = 49 ∧ plainOut l a (w * h) bits p e) ∨ (¬ (c.toNat : Int) = 49 ∧ packedOut l a w h bits p e)
/-- What Read answers. -/
def readOut (l : List UInt8) (n m : Nat) (bits : List UInt8) (e : Int) (q : Nat) : Prop :=
  ∃ c0 n0 m0 p0 e0, headOut l c0 n0 m0 p0 e0 ∧
    ((e0 ≠ 0 ∧ n = 0 ∧ m = 0 ∧ bits = [] ∧ e = e0 ∧ q = p0) ∨
     (e0 = 0 ∧ ∃ b1 p1 e1, pixOut c0 l p0 n0 m0 b1 p1 e1 ∧
       ((e1 ≠ 0 ∧ n = 0 ∧ m = 0 ∧ bits = [] ∧ e = e1 ∧ q = p1) ∨ (e1 = 0 ∧ n = n0 ∧ m = m0 ∧ bits = b1 ∧ e = 0 ∧ q = 0))))

theorem lackE_nz (n a : Nat) : lackE n a ≠ 0 := by unfold lackE; split <;> omega
theorem kindOut_one {l : List UInt8} {c c' : UInt8} {p p' : Nat} {e e' : Int} (h : kindOut l c p e) (h' : kindOut l c' p' e') : c = c' ∧ p = p' ∧ e = e' := by
  rcases h with ⟨a, rfl, rfl, rfl⟩ | ⟨⟨x, hx, hx1⟩, b, rfl, rfl, rfl⟩ | ⟨⟨x, hx, hx1⟩, b, b1, rfl, rfl⟩ <;>
  rcases h' with ⟨a', rfl, rfl, rfl⟩ | ⟨⟨x', hx', hx1'⟩, b', rfl, rfl, rfl⟩ | ⟨⟨x', hx', hx1'⟩, b', b1', rfl, rfl⟩
  · exact ⟨rfl, rfl, rfl⟩
  · exact absurd hx1' (a _ hx')
  · exact absurd hx1' (a _ hx')
  · exact absurd hx1 (a' _ hx)
  · exact ⟨rfl, rfl, rfl⟩
  · have := b _ b'; omega
  · exact absurd hx1 (a' _ hx)
  · have := b' _ b; omega
  · rw [b] at b'; cases b'; exact ⟨rfl, rfl, rfl⟩
theorem numOut_one {l : List UInt8} {g n n' p p' : Nat} {e e' : Int} (h : numOut l g n p e) (h' : numOut l g n' p' e') : n = n' ∧ p = p' ∧ e = e' := by
  rcases h with ⟨a, rfl, rfl, rfl⟩ | ⟨a, a1, rfl, rfl, rfl⟩ | ⟨a, a1, a2, rfl, rfl, rfl⟩ <;>
  rcases h' with ⟨b, rfl, hp, rfl⟩ | ⟨b, b1, rfl, hp, rfl⟩ | ⟨b, b1, b2, rfl, rfl, rfl⟩ <;>
  first | exact ⟨rfl, rfl, rfl⟩ | exact ⟨rfl, hp.symm, rfl⟩ | omega
theorem sideOut_one {l : List UInt8} {a n n' p p' : Nat} {e e' : Int} (h : sideOut l a n p e) (h' : sideOut l a n' p' e') : n = n' ∧ p = p' ∧ e = e' := by
  rcases h with ⟨x, rfl, rfl, rfl⟩ | ⟨x, h⟩ <;> rcases h' with ⟨y, rfl, hp, rfl⟩ | ⟨y, h'⟩
  · exact ⟨rfl, hp.symm, rfl⟩
  · omega
  · omega
  · exact numOut_one h h'
theorem headOut_one {l : List UInt8} {c c' : UInt8} {n n' m m' p p' : Nat} {e e' : Int} (h : headOut l c n m p e) (h' : headOut l c' n' m' p' e') : c = c' ∧ n = n' ∧ m = m' ∧ p = p' ∧ e = e' := by
  obtain ⟨c0, p0, e0, hk, h⟩ := h
  obtain ⟨d0, q0, f0, hk', h'⟩ := h'
  obtain ⟨rfl, rfl, rfl⟩ := kindOut_one hk hk'
  rcases h with ⟨z, rfl, rfl, rfl, rfl, rfl⟩ | ⟨z, n1, p1, e1, hs, h⟩ <;> rcases h' with ⟨z', rfl, rfl, rfl, rfl, rfl⟩ | ⟨z', n1', p1', e1', hs', h'⟩
  · exact ⟨rfl, rfl, rfl, rfl, rfl⟩
  · exact absurd z' z
  · exact absurd z z'
  · obtain ⟨rfl, rfl, rfl⟩ := sideOut_one hs hs'
    rcases h with ⟨y, rfl, rfl, rfl, rfl, rfl⟩ | ⟨y, n2, p2, e2, ht, h⟩ <;> rcases h' with ⟨y', rfl, rfl, rfl, rfl, rfl⟩ | ⟨y', n2', p2', e2', ht', h'⟩
    · exact ⟨rfl, rfl, rfl, rfl, rfl⟩
    · exact absurd y' y
    · exact absurd y y'
    · obtain ⟨rfl, rfl, rfl⟩ := sideOut_one ht ht'
      rcases h with ⟨x, rfl, rfl, rfl, rfl, rfl⟩ | ⟨x, rfl, rfl, rfl, rfl, rfl⟩ <;> rcases h' with ⟨x', rfl, rfl, rfl, rfl, rfl⟩ | ⟨x', rfl, rfl, rfl, rfl, rfl⟩
      · exact ⟨rfl, rfl, rfl, rfl, rfl⟩
      · exact absurd x' x
      · exact absurd x x'
      · exact ⟨rfl, rfl, rfl, rfl, rfl⟩
theorem plainOut_one {l : List UInt8} {a n p p' : Nat} {b b' : List UInt8} {e e' : Int} (h : plainOut l a n b p e) (h' : plainOut l a n b' p' e') : b = b' ∧ p = p' ∧ e = e' := by
  rcases h with ⟨x, rfl, rfl, rfl⟩ | ⟨x, rfl, rfl, rfl⟩ <;> rcases h' with ⟨y, rfl, rfl, rfl⟩ | ⟨y, rfl, rfl, rfl⟩
  · exact ⟨rfl, rfl, rfl⟩
  · rw [x] at y; cases y
  · rw [x] at y; cases y
  · exact ⟨rfl, rfl, rfl⟩
theorem packedOut_one {l : List UInt8} {a w h p p' : Nat} {b b' : List UInt8} {e e' : Int} (h1 : packedOut l a w h b p e) (h2 : packedOut l a w h b' p' e') : b = b' ∧ p = p' ∧ e = e' := by
  rcases h1 with ⟨x, rfl, rfl, rfl⟩ | ⟨⟨c, hc, hb⟩, x, rfl, rfl, rfl⟩ | ⟨⟨c, hc, hb⟩, x, rfl, rfl, rfl⟩ <;>
  rcases h2 with ⟨y, rfl, hp, rfl⟩ | ⟨⟨c', hc', hb'⟩, y, rfl, rfl, rfl⟩ | ⟨⟨c', hc', hb'⟩, y, rfl, rfl, rfl⟩
  · exact ⟨rfl, hp.symm, rfl⟩
  · have := x _ hc'; rw [hb'] at this; cases this
  · have := x _ hc'; rw [hb'] at this; cases this
  · have := y _ hc; rw [hb] at this; cases this
  · exact ⟨rfl, rfl, rfl⟩
  · omega
  · have := y _ hc; rw [hb] at this; cases this
  · omega
  · exact ⟨rfl, rfl, rfl⟩
theorem pixOut_one {c : UInt8} {l : List UInt8} {a w h p p' : Nat} {b b' : List UInt8} {e e' : Int} (h1 : pixOut c l a w h b p e) (h2 : pixOut c l a w h b' p' e') : b = b' ∧ p = p' ∧ e = e' := by
  rcases h1 with ⟨x, h1⟩ | ⟨x, h1⟩ <;> rcases h2 with ⟨y, h2⟩ | ⟨y, h2⟩
  · exact plainOut_one h1 h2
  · exact absurd x y
  · exact absurd y x
  · exact packedOut_one h1 h2
theorem readOut_one {l : List UInt8} {n n' m m' q q' : Nat} {b b' : List UInt8} {e e' : Int} (h : readOut l n m b e q) (h' : readOut l n' m' b' e' q') : n = n' ∧ m = m' ∧ b = b' ∧ e = e' ∧ q = q' := by
  obtain ⟨c0, n0, m0, p0, e0, hh, h⟩ := h
  obtain ⟨c0', n0', m0', p0', e0', hh', h'⟩ := h'
  obtain ⟨rfl, rfl, rfl, rfl, rfl⟩ := headOut_one hh hh'
  rcases h with ⟨z, rfl, rfl, rfl, rfl, rfl⟩ | ⟨z, b1, p1, e1, hp, h⟩ <;> rcases h' with ⟨z', rfl, rfl, rfl, rfl, rfl⟩ | ⟨z', b1', p1', e1', hp', h'⟩
  · exact ⟨rfl, rfl, rfl, rfl, rfl⟩
  · exact absurd z' z
  · exact absurd z z'
  · obtain ⟨rfl, rfl, rfl⟩ := pixOut_one hp hp'
    rcases h with ⟨x, rfl, rfl, rfl, rfl, rfl⟩ | ⟨x, rfl, rfl, rfl, rfl, rfl⟩ <;> rcases h' with ⟨x', rfl, rfl, rfl, rfl, rfl⟩ | ⟨x', rfl, rfl, rfl, rfl, rfl⟩
    · exact ⟨rfl, rfl, rfl, rfl, rfl⟩
    · exact absurd x' x
    · exact absurd x x'
    · exact ⟨rfl, rfl, rfl, rfl, rfl⟩

theorem numOut_ok {l : List UInt8} {g n p : Nat} {e : Int} (hg : g ≤ l.length) (h : numOut l g n p e) : p ≤ l.length ∧ (e = 0 → 1 ≤ n ∧ n ≤ 32) ∧ n ≤ 32 := by
  have := numC_le (l.drop g)
  rw [List.length_drop] at this
  rcases h with ⟨a, rfl, rfl, rfl⟩ | ⟨a, a1, rfl, rfl, rfl⟩ | ⟨a, a1, a2, rfl, rfl, rfl⟩
  · exact ⟨hg, fun h => absurd h (lackE_nz _ _), by omega⟩
  · exact ⟨hg, fun h => by omega, by omega⟩
  · exact ⟨by omega, fun _ => ⟨a1, a2⟩, a2⟩
theorem sideOut_ok {l : List UInt8} {a n p : Nat} {e : Int} (ha : a ≤ l.length) (h : sideOut l a n p e) : p ≤ l.length ∧ (e = 0 → 1 ≤ n ∧ n ≤ 32) ∧ n ≤ 32 := by
  rcases h with ⟨x, rfl, rfl, rfl⟩ | ⟨x, h⟩
  · exact ⟨ha, fun h => absurd h (lackE_nz _ _), by omega⟩
  · exact numOut_ok (gapEnd_le l a ha) h
theorem kindOut_ok {l : List UInt8} {c : UInt8} {p : Nat} {e : Int} (h : kindOut l c p e) : e = 0 → p = 2 ∧ 2 ≤ l.length ∧ ((c.toNat : Int) = 49 ∨ (c.toNat : Int) = 52) := by
  intro h0
  rcases h with ⟨a, rfl, rfl, rfl⟩ | ⟨_, b, rfl, rfl, rfl⟩ | ⟨_, b, b1, rfl, rfl⟩
  · exact absurd h0 (lackE_nz _ _)
  · exact absurd h0 (lackE_nz _ _)
  · refine ⟨rfl, ?_, b1⟩
    have := (List.getElem?_eq_some_iff.1 b).1
    omega
theorem headOut_ok {l : List UInt8} {c : UInt8} {n m p : Nat} {e : Int} (h : headOut l c n m p e) (h0 : e = 0) : p ≤ l.length ∧ 1 ≤ n ∧ n ≤ 32 ∧ 1 ≤ m ∧ m ≤ 32 ∧ ((c.toNat : Int) = 49 ∨ (c.toNat : Int) = 52) := by
  obtain ⟨c0, p0, e0, hk, h⟩ := h
  rcases h with ⟨z, rfl, rfl, rfl, rfl, rfl⟩ | ⟨z, n1, p1, e1, hs, h⟩
  · exact absurd h0 z
  · obtain ⟨rfl, k2, k3⟩ := kindOut_ok hk z
    have s1 := sideOut_ok k2 hs
    rcases h with ⟨y, rfl, rfl, rfl, rfl, rfl⟩ | ⟨y, n2, p2, e2, ht, h⟩
    · exact absurd h0 y
    · have s2 := sideOut_ok s1.1 ht
      rcases h with ⟨x, rfl, rfl, rfl, rfl, rfl⟩ | ⟨x, rfl, rfl, rfl, rfl, rfl⟩
      · exact absurd h0 x
      · have q1 := s1.2.1 y
        have q2 := s2.2.1 x
        exact ⟨s2.1, q1.1, q1.2, q2.1, q2.2, k3⟩
end Go.Proofs.YtljfiefobnncaabDoor.Pm

/- Plain facts on the P1 file of a bitmap. -/
namespace Go.Proofs.YtljfiefobnncaabDoor.Pm

/-- What stands ahead of the pixels in the P1 file that the statement writes. -/
def head1 (w h : Nat) : List UInt8 := [80, 49, 32] ++ itoaL w ++ [10] ++ itoaL h ++ [10]
/-- The first i pixels, a newline behind each row. -/
def p1To (l : List UInt8) (w : Nat) : Nat → List UInt8
  | 0 => []
  | i + 1 => p1To l w i ++ ([l.getD i 0] ++ if i % w = w - 1 then [10] else [])
theorem p1To_yes (l : List UInt8) (w i : Nat) (h : i % w = w - 1) : p1To l w (i + 1) = p1To l w i ++ [l.getD i 0] ++ [10] := by
  rw [p1To, if_pos h, List.append_assoc]
theorem p1To_no (l : List UInt8) (w i : Nat) (h : ¬ i % w = w - 1) : p1To l w (i + 1) = p1To l w i ++ [l.getD i 0] := by
  rw [p1To, if_neg h, List.append_nil]
theorem head1_data (w h : Nat) {l : List UInt8} : ((⟨#[80, 49, 32]⟩ : ByteArray) ++ ⟨(itoaL w).toArray⟩ ++ ⟨#[10]⟩ ++ ⟨(itoaL h).toArray⟩ ++ ⟨#[10]⟩).data.toList = head1 w h ++ p1To l w 0 := by
  simp [head1, p1To]
theorem head1_size (w h : Nat) : ((⟨#[80, 49, 32]⟩ : ByteArray) ++ ⟨(itoaL w).toArray⟩ ++ ⟨#[10]⟩ ++ ⟨(itoaL h).toArray⟩ ++ ⟨#[10]⟩).size ≤ 20 + 2 * 0 := by
  have := itoaL_len w
  have := itoaL_len h
  simp only [ByteArray.size_append]
  show 3 + (itoaL w).length + 1 + (itoaL h).length + 1 ≤ _
  omega
end Go.Proofs.YtljfiefobnncaabDoor.Pm

/- Plain facts: what is written is read back; half of it is no file. -/
namespace Go.Proofs.YtljfiefobnncaabDoor.Pm

theorem numV_app : ∀ (d : List UInt8) (m : Nat) (c : UInt8) (r : List UInt8), d.all digitB = true → digitB c = false → numV m (d ++ c :: r) = numV m d
  | [], m, c, r, _, hc => by simp [numV, hc]
  | x :: d, m, c, r, hd, hc => by
    simp only [List.all_cons, Bool.and_eq_true] at hd
    rw [List.cons_append, numV, numV, if_pos hd.1, if_pos hd.1, numV_app d _ c r hd.2 hc]
theorem numC_app : ∀ (d : List UInt8) (c : UInt8) (r : List UInt8), d.all digitB = true → digitB c = false → numC (d ++ c :: r) = d.length
  | [], c, r, _, hc => by simp [numC, hc]
  | x :: d, c, r, hd, hc => by
    simp only [List.all_cons, Bool.and_eq_true] at hd
    rw [List.cons_append, numC, if_pos hd.1, numC_app d c r hd.2 hc, List.length_cons]; omega
theorem itoaL_facts : ∀ n, n < 33 → (itoaL n).all digitB = true ∧ numV 0 (itoaL n) = n ∧ 0 < (itoaL n).length := by decide +kernel
theorem digit_not {c : UInt8} (h : digitB c = true) : ((c.toNat : Int) == 35) = false ∧ blankB c = false := by
  have b := digit_bounds h
  refine ⟨beq_eq_false_iff_ne.2 (by omega), ?_⟩
  rw [blankB_eq]
  simp only [Bool.or_eq_false_iff, beq_eq_false_iff_ne]
  omega
/-- A gap of one byte and a number behind it, wherever they stand. -/
theorem side_read (pre : List UInt8) (c : UInt8) (n : Nat) (e : UInt8) (r : List UInt8) (hc : blankB c = true) (hc2 : ((c.toNat : Int) == 35) = false) (n1 : 1 ≤ n) (n2 : n ≤ 32) (he : digitB e = false) :
    sideOut (pre ++ c :: (itoaL n ++ e :: r)) pre.length n (pre.length + 1 + (itoaL n).length) 0 := by
  obtain ⟨f1, f2, f3⟩ := itoaL_facts n (by omega)
  have hd : (pre ++ c :: (itoaL n ++ e :: r)).drop pre.length = c :: (itoaL n ++ e :: r) := by simp
  have hs : skipG (itoaL n ++ e :: r) false = 0 := by
    cases hi : itoaL n with
    | nil => rw [hi] at f3; simp at f3
    | cons x d =>
      rw [hi] at f1
      simp only [List.all_cons, Bool.and_eq_true] at f1
      have q := digit_not f1.1
      rw [List.cons_append, skipG, if_neg (by simp [q.1, q.2])]
  have hg : gapEnd (pre ++ c :: (itoaL n ++ e :: r)) pre.length = pre.length + 1 := by
    rw [gapEnd, hd, skipG, if_pos (by simp [hc]), hc2]
    simp only [Bool.false_or, Bool.and_false, hs]
  have hd2 : (pre ++ c :: (itoaL n ++ e :: r)).drop (pre.length + 1) = itoaL n ++ e :: r := by
    rw [← List.drop_drop, hd]; rfl
  refine .inr ⟨by omega, ?_⟩
  rw [hg]
  refine .inr (.inr ?_)
  rw [hd2, numC_app _ _ _ f1 he, numV_app _ _ _ _ f1 he, f2]
  exact ⟨f3, n1, n2, rfl, rfl, rfl⟩
theorem flat_get (f : Nat → List UInt8) (r : Nat) (hf : ∀ y, (f y).length = r) : ∀ (H y m : Nat), y < H → m < r → ((List.range H).flatMap f)[y * r + m]? = (f y)[m]?
  | 0, y, m, hy, _ => by omega
  | H + 1, y, m, hy, hm => by
    have hlen : ((List.range H).flatMap f).length = H * r := by
      clear hy
      induction H with
      | zero => simp
      | succ k ih => rw [List.range_succ, List.flatMap_append, List.length_append, ih]; simp [hf, Nat.add_mul]
    rw [List.range_succ, List.flatMap_append]
    by_cases h : y < H
    · have : y * r + m < H * r := by
        have := Nat.mul_le_mul_right r (Nat.succ_le_of_lt h)
        rw [Nat.succ_mul] at this; omega
      rw [List.getElem?_append_left (by rw [hlen]; exact this)]
      exact flat_get f r hf H y m h hm
    · obtain rfl : y = H := by omega
      rw [List.getElem?_append_right (by rw [hlen]; omega), hlen]
      simp [show y * r + m - y * r = m from by omega]
theorem flat_len (f : Nat → List UInt8) (r : Nat) (hf : ∀ y, (f y).length = r) : ∀ H, ((List.range H).flatMap f).length = H * r
  | 0 => by simp
  | H + 1 => by rw [List.range_succ, List.flatMap_append, List.length_append, flat_len f r hf H]; simp [hf, Nat.add_mul]
/-- A byte's bits are the pixels that went into it. -/
theorem packV_bits (f : Nat → Bool) : ∀ (n j : Nat), j < n → packV f n / 2 ^ (n - 1 - j) % 2 = if f j then 1 else 0
  | 0, j, h => by omega
  | n + 1, j, h => by
    by_cases hj : j = n
    · subst hj
      simp only [packV, show j + 1 - 1 - j = 0 from by omega, Nat.pow_zero, Nat.div_one]
      split <;> omega
    · have ih := packV_bits f n j (by omega)
      rw [show n + 1 - 1 - j = (n - 1 - j) + 1 from by omega, Nat.pow_succ, Nat.mul_comm, ← Nat.div_div_eq_div_mul, packV]
      rw [show (2 * packV f n + if f n = true then 1 else 0) / 2 = packV f n from by split <;> omega]
      exact ih
theorem bitOf_byteAt (l : List UInt8) (i j : Nat) (hj : j < 8) : bitOf (byteAt l i) j = if bitAt l (i + j) then 1 else 0 := by
  rw [bitOf, byteAt_toNat]
  exact packV_bits (fun k => bitAt l (i + k)) 8 j hj
theorem pix_back (l : List UInt8) (x : Nat) (hx : x < l.length) (hp : l.all okPix = true) : UInt8.ofNat (48 + if bitAt l x then 1 else 0) = l[x] := by
  have h := List.all_eq_true.1 hp l[x] (List.getElem_mem hx)
  simp only [okPix, Bool.or_eq_true, beq_iff_eq] at h
  have e : l[x]? = some l[x] := List.getElem?_eq_getElem hx
  rcases h with h | h
  · have b : bitAt l x = false := by rw [bitAt, e, h]; rfl
    rw [b, h]; rfl
  · have b : bitAt l x = true := by rw [bitAt, e, h]; rfl
    rw [b, h]; rfl
end Go.Proofs.YtljfiefobnncaabDoor.Pm
