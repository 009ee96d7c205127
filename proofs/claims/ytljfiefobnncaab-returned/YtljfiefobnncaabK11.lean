import Derived.Test.YtljfiefobnncaabK10

/- walk, walkFrom of package cycles. -/
namespace Go.Proofs.Ytljfiefobnncaab
open Go.RowKit

theorem side_nat {W H : Nat} {s : ByteArray} (hw : W ≤ 32) (hh : H ≤ 32) {t : Qm.Sd} (hs : Qm.isS (Pm.blackB W H s.data.toList) t = true) : ∃ x y d : Nat, t = ((x : Int), (y : Int), d) ∧ x ≤ 32 ∧ y ≤ 32 ∧ d < 4 := by
  have hb := Qm.side_in (Qm.pic_of W H s.data.toList hw hh) hs
  have hd := Qm.isS_lt hs
  obtain ⟨x, y, d⟩ := t
  dsimp only at hb hd
  refine ⟨x.toNat, y.toNat, d, ?_, by omega, by omega, hd⟩
  rw [show ((x.toNat : Nat) : Int) = x from by omega, show ((y.toNat : Nat) : Int) = y from by omega]

theorem it_nat {W H : Nat} {s : ByteArray} {pol : Nat} {draws : ByteArray} (hw : W ≤ 32) (hh : H ≤ 32) (x y d : Nat) (hx : x ≤ 32) (hy : y ≤ 32) (hd : d < 4) (m : Nat)
    (hs : 0 < m → Qm.isS (Pm.blackB W H s.data.toList) ((x : Int), (y : Int), d) = true) :
    ∃ x' y' d' : Nat, Qm.it (fB W H s pol draws) m ((x : Int), (y : Int), d) = ((x' : Int), (y' : Int), d') ∧ x' ≤ 32 ∧ y' ≤ 32 ∧ d' < 4 := by
  rcases Nat.eq_zero_or_pos m with h0 | h0
  · subst h0; exact ⟨x, y, d, rfl, hx, hy, hd⟩
  · exact side_nat hw hh ((Qm.step (Qm.pic_of W H s.data.toList hw hh) (Qm.jnB W H s.data.toList pol draws.data.toList)).its (hs h0) m)

theorem en_nat {W H : Nat} {s : ByteArray} {pol : Nat} {draws : ByteArray} (hw : W ≤ 32) (hh : H ≤ 32) {t : Qm.Sd} (hs : Qm.isS (Pm.blackB W H s.data.toList) t = true) :
    ∃ px py : Nat, Qm.en t = ((px : Int), (py : Int)) ∧ px ≤ 32 ∧ py ≤ 32 ∧ fB W H s pol draws t = ((px : Int), (py : Int), Qm.nxD (Pm.blackB W H s.data.toList) (Qm.jnB W H s.data.toList pol draws.data.toList) ((px : Int), (py : Int)) t.2.2) := by
  obtain ⟨px, py, d, e, h1, h2, _⟩ := side_nat hw hh (Qm.nx_isS (jn := Qm.jnB W H s.data.toList pol draws.data.toList) hs)
  have e1 : Qm.en t = ((px : Int), (py : Int)) := Prod.ext (congrArg (fun s : Qm.Sd => s.1) e) (congrArg (fun s : Qm.Sd => s.2.1) e)
  exact ⟨px, py, e1, h1, h2, by rw [← e1]; show (_, _, _) = (_, _, _); rw [e1]⟩

theorem code_nat (x y d : Nat) : (Qm.codeS ((x : Int), (y : Int), d)).toNat = (y * 33 + x) * 4 + d := by simp only [Qm.codeS, Qm.key]; omega

theorem Wlk.kept {g W H : Nat} {s : ByteArray} {pol : Nat} {draws : ByteArray} {spk : Int} {R : List (Qm.Sd × Nat)} {s0 : Qm.Sd} {w : World} {m : Nat} {T : Nat → Bool} {v : Value} {wr w1 : World} (h : Wlk g W H s pol draws spk R s0 w m T v wr) (hg : g < w.heap.size) (g1 : wr.grownBy w1 (some g)) : w1.ownsRow (w.heap.size + 1) 43 2 v m (Qm.ptsV (Qm.ptsOf (fB W H s pol draws) (s0, m))) := by
  refine h.own.kept g1 ?_
  cases hv : v.ownBlock with
  | none => exact .inl rfl
  | some k => right; intro e; injection e with e; have := h.own.lt k hv; omega

set_option maxRecDepth 4000 in
set_option maxHeartbeats 2000000 in
theorem walk_any (g W H : Nat) (s : ByteArray) (pol : Nat) (draws : ByteArray) (spk : Int) (R : List (Qm.Sd × Nat)) (T : Nat → Bool) (x y d : Nat) (hd : d < 4) (hx : x ≤ 32) (hy : y ≤ 32) (hp : pol ≤ 3) (w : World) (hW : Wk g W H s pol draws spk w) (hK : Tkn g T w) (hw2 : W ≤ 32) (hh2 : H ≤ 32) (hl : s.size = W * H)
    (hR : ∀ c ∈ R, Qm.Cyc (fB W H s pol draws) (bB W H s) c.1 c.2) (hr : Qm.Rep (Pm.blackB W H s.data.toList) (fB W H s pol draws) T R) :
    Calls Try.prog 26 #[.pointer (some ⟨g, 0, none⟩), .agg #[.int .i64 x, .int .i64 y, .int .i64 d]] w fun e w' => ∃ v, e = .returned v ∧ WalkOut g W H s pol draws spk R ((x : Int), (y : Int), d) w v w' := by
  obtain ⟨i0, hi, hz0, hz1, hz2⟩ := info_parts infoPoint
  have HL := hid hl
  have HR := hid hR
  have hg := hW.2.2.2.2.2.2
  have HS := hid (Wlk.start g x y d 60 hW hK hr)
  clear hl hR hr hW hK
  go_enter Try.func26, Try.ntmps26
  go_wp2
  go_loopw [5] (fun v wr => ∃ (m : Nat) (T' : Nat → Bool), Hid (Wlk g W H s pol draws spk R ((x : Int), (y : Int), d) w m T' v wr)) (fun _ wr => unt g wr)
  case atStart => exact ⟨0, T, HS⟩
  case round =>
    clear HS
    obtain ⟨m, T', h⟩ := hrel
    obtain ⟨x', y', d', ht, hx', hy', hd'⟩ := it_nat (s := s) (pol := pol) (draws := draws) hw2 hh2 x y d hx hy hd m (fun h0 => (h.out.side h0).1)
    have HT := hid ht
    have hbox := h.out.box
    rw [ht] at hbox
    obtain ⟨b0, b1, b2, f0, f1, f2, hz⟩ := hbox
    dsimp only at b0 b1 b2
    have hcode := hid (code_nat x' y' d')
    clear ht
    obtain ⟨c, hc⟩ : ∃ c, c = (y' * 33 + x') * 4 + d' := ⟨_, rfl⟩
    cases hT : T' c
    · cases hs : Qm.isS (Pm.blackB W H s.data.toList) ((x' : Int), (y' : Int), d')
      · go_wp2_with fail
        refine (take_none g W H s pol draws spk T' x' y' d' c hd' hx' hy' hc hT _ h.out.wk h.out.tkn hw2 hh2 HL.out hs).mono ?_
        rintro e w1 ⟨rfl, hb⟩
        have HB := hid hb
        clear hb hc
        go_wp2
        go_ret
        exact ⟨_, rfl, h.out.out HB.out hw2 hh2 HR.out (fun hq => absurd hq (by rw [HT.out, hs]; simp))⟩
      · have HC := hid hc
        obtain ⟨px, py, he, hpx, hpy, hf⟩ := en_nat (pol := pol) (draws := draws) hw2 hh2 hs
        have HE := hid he
        have HF := hid hf
        have hm := h.out.few
        clear he hf
        go_wp2_with fail
        refine (take_yes g W H s pol draws spk T' x' y' d' c hd' hx' hy' hc hT _ h.out.wk h.out.tkn hw2 hh2 HL.out hs).mono ?_
        rintro e w1 ⟨rfl, g1, k1, t1⟩
        clear hc
        have G1 := hid g1
        have K1 := hid k1
        have T1 := hid t1
        have z1 := g1.size
        obtain ⟨b0', b1', b2', f0', f1', f2', hz'⟩ := (show BoxS w.heap.size ((x' : Int), (y' : Int), d') wr from ⟨b0, b1, b2, f0, f1, f2, hz⟩).of (w' := w1) (g1.block _ hz (by simp; omega)) g1.size
        clear b0 b1 b2 f0 f1 f2 g1 k1 t1
        dsimp only at b0' b1' b2'
        have O1 := hid (h.out.kept hg G1.out)
        have n1 : m + 1 ≤ maxLen := by unfold maxLen; omega
        have n2 : (m + 1) * 16 ≤ 140737488355328 := by omega
        have n3 : w.heap.size + 1 ≤ (w1.alloc (.cells #[.int .i64 x', .int .i64 y'] 43)).heap.size := by simp; omega
        go_wp2_with (first
          | (at_builtin; refine wpList_append_own _ rfl _ _ 37 rfl (w.heap.size + 1) 43 i0 (.agg #[.int .i64 0, .int .i64 0]) 2 16 Try.underlying37 hi hz0 hz1 hz2 rfl (by decide) _ _ _ rfl (O1.out.alloc _) ⟨_, 0, none⟩ 1 1 [.int .i64 x', .int .i64 y'] rfl rfl ?c1 ?c2 n1 n2 n3 ?_))
        case c1 =>
          intro j u hj
          match j, hj with
          | 0, hj => simp at hj; subst hj; simp [Addr.add]
          | 1, hj => simp at hj; subst hj; simp [Addr.add]
        case c2 => intro u hu; simp at hu; rcases hu with rfl | rfl <;> rfl
        intro v' w3 o3 g3 _
        have O3 := hid o3
        have G3 := hid g3
        have b13 : Below (w.heap.size + 1) w1 w3 := ((Below.refl _ _).alloc (by omega) _).grown g3 n3 (fun k hk => (h.out.own.lt k hk).1)
        have B13 := hid b13
        have z3 := b13.size
        obtain ⟨b0, b1, b2, f0, f1, f2, hz3⟩ := (show BoxS w.heap.size ((x' : Int), (y' : Int), d') w1 from ⟨b0', b1', b2', f0', f1', f2', hz'⟩).of (w' := w3) (b13.block _ (by omega)) b13.size
        dsimp only at b0 b1 b2
        clear o3 g3 b13 b0' b1' b2' f0' f1' f2' n3
        go_wp2_with fail
        refine (next_any g W H s pol draws spk x' y' d' px py hd' (by omega) (by omega) (by omega) (by omega) HE.out hp _ (K1.out.onB B13.out (by omega)) hw2 hh2 HL.out).mono ?_
        rintro e w4 ⟨rfl, b4⟩
        have B4 := hid b4
        have z4 := b4.size
        obtain ⟨b0', b1', b2', f0', f1', f2', hz4⟩ := (show BoxS w.heap.size ((x' : Int), (y' : Int), d') w3 from ⟨b0, b1, b2, f0, f1, f2, hz3⟩).of (w' := w4) (b4.block _ (by omega)) b4.size
        dsimp only at b0' b1' b2'
        clear b4 b0 b1 b2 f0 f1 f2
        have e1 : Qm.it (fB W H s pol draws) (m + 1) ((x : Int), (y : Int), d) = ((px : Int), (py : Int), Qm.nxD (Pm.blackB W H s.data.toList) (Qm.jnB W H s.data.toList pol draws.data.toList) ((px : Int), (py : Int)) d') := by
          show fB W H s pol draws (Qm.it (fB W H s pol draws) m ((x : Int), (y : Int), d)) = _
          rw [HT.out]; exact HF.out
        have ec : (Qm.codeS (Qm.it (fB W H s pol draws) m ((x : Int), (y : Int), d))).toNat = c := by rw [HT.out, hcode.out, HC.out]
        have hs2 : Qm.isS (Pm.blackB W H s.data.toList) (Qm.it (fB W H s pol draws) m ((x : Int), (y : Int), d)) = true := by rw [HT.out]; exact hs
        have N := h.out.succ (w1 := w1) (w3 := w3) (w4 := w4) (v' := v') (o := .cells #[.int .i64 x', .int .i64 y'] 43) hw2 hh2 hg hs2 (by rw [ec]; exact hT) G1.out K1.out (by rw [ec]; exact T1.out) (by rw [HT.out]; exact O3.out) G3.out B4.out
        rw [ec, e1] at N
        have HN := hid N
        have hmm := unt_of N.tkn
        have hm0 := unt_of h.out.tkn
        have hm1 := Qm.cntF_mark T' c hT 4356 (by have := HC.out; omega)
        have HM := hid (show unt g _ < unt g wr by rw [hmm, hm0]; omega)
        clear N hmm hm0 hm1 e1 ec hs2
        go_wp2
        go_roundw
        case rel => exact ⟨m + 1, _, HN⟩
        case measure => exact HM.out
    · go_wp2_with fail
      refine (take_no g W H s pol draws spk T' x' y' d' c hd' hx' hy' hc hT _ h.out.wk h.out.tkn).mono ?_
      rintro e w1 ⟨rfl, hb⟩
      have HB := hid hb
      have HC := hid hc
      clear hb hc
      go_wp2
      go_ret
      exact ⟨_, rfl, h.out.out HB.out hw2 hh2 HR.out (fun _ => by rw [HT.out, hcode.out, ← HC.out, hT])⟩
end Go.Proofs.Ytljfiefobnncaab

/- walkFrom of package cycles. -/
namespace Go.Proofs.Ytljfiefobnncaab
open Go.RowKit

/-- All sides that lead onward from points ahead of K are taken. -/
def Ahead (bl : Int → Int → Bool) (f : Qm.Sd → Qm.Sd) (R : List (Qm.Sd × Nat)) (K : Int) : Prop := ∀ t, Qm.isS bl t = true → Qm.key t < K → Qm.key t < Qm.key (f t) → Qm.Tk f R t

def WalkFromOut (g W H : Nat) (s : ByteArray) (pol : Nat) (draws : ByteArray) (spk : Int) (R : List (Qm.Sd × Nat)) (x y : Nat) (w : World) (v : Value) (w' : World) : Prop :=
  ∃ (n : Nat) (T : Nat → Bool) (R' : List (Qm.Sd × Nat)) (s0 : Qm.Sd), w'.ownsRow w.heap.size 43 2 v n (Qm.ptsV (Qm.ptsOf (fB W H s pol draws) (s0, n))) ∧ w.grownBy w' (some g) ∧ Wk g W H s pol draws spk w' ∧ Tkn g T w' ∧ n ≤ 4356 ∧
  Qm.Rep (Pm.blackB W H s.data.toList) (fB W H s pol draws) T R' ∧ Ahead (Pm.blackB W H s.data.toList) (fB W H s pol draws) R' (33 * (y : Int) + x + 1) ∧
  ((n = 0 ∧ R' = R) ∨ (0 < n ∧ R' = R ++ [(s0, n)] ∧ Qm.Canon (fB W H s pol draws) (bB W H s) Qm.key (s0, n) ∧ Qm.key s0 = 33 * (y : Int) + x))

section
variable {g W H : Nat} {s : ByteArray} {pol : Nat} {draws : ByteArray} {spk : Int} {R : List (Qm.Sd × Nat)} {w w' : World} {v : Value}

theorem up_iff {t : Qm.Sd} (h : t.2.2 < 4) : Qm.key t < Qm.key (fB W H s pol draws t) ↔ t.2.2 ≤ 1 := by
  rw [Qm.key_nx _ _ _ h]
  split
  · omega
  · split
    · omega
    · split <;> omega

theorem Ahead.found (hw : W ≤ 32) (hh : H ≤ 32) {x y d n : Nat} (hd : d ≤ 1) (hA : Ahead (Pm.blackB W H s.data.toList) (fB W H s pol draws) R (33 * (y : Int) + x)) (hc : Qm.Cyc (fB W H s pol draws) (bB W H s) ((x : Int), (y : Int), d) n) :
    Ahead (Pm.blackB W H s.data.toList) (fB W H s pol draws) (R ++ [(((x : Int), (y : Int), d), n)]) (33 * (y : Int) + x + 1) := by
  intro t ht hk hu
  have st := Qm.step (Qm.pic_of W H s.data.toList hw hh) (Qm.jnB W H s.data.toList pol draws.data.toList)
  by_cases e : Qm.key t < 33 * (y : Int) + x
  · obtain ⟨c, h1, h2⟩ := hA t ht e hu
    exact ⟨c, List.mem_append_left _ h1, h2⟩
  · have hk0 : Qm.key ((x : Int), (y : Int), d) = 33 * (y : Int) + x := rfl
    have := st.one t ((x : Int), (y : Int), d) ht hc.1 (by rw [hk0]; omega) hu ((up_iff (by show d < 4; omega)).2 hd)
    exact ⟨_, List.mem_append_right _ (List.mem_singleton.2 rfl), 0, hc.2.1, this⟩

theorem Ahead.none (hw : W ≤ 32) (hh : H ≤ 32) {x y : Nat} (hx : x ≤ 32) (hA : Ahead (Pm.blackB W H s.data.toList) (fB W H s pol draws) R (33 * (y : Int) + x))
    (h0 : Qm.isS (Pm.blackB W H s.data.toList) ((x : Int), (y : Int), 0) = false ∨ Qm.Tk (fB W H s pol draws) R ((x : Int), (y : Int), 0)) (h1 : Qm.isS (Pm.blackB W H s.data.toList) ((x : Int), (y : Int), 1) = false ∨ Qm.Tk (fB W H s pol draws) R ((x : Int), (y : Int), 1)) :
    Ahead (Pm.blackB W H s.data.toList) (fB W H s pol draws) R (33 * (y : Int) + x + 1) := by
  intro t ht hk hu
  by_cases e : Qm.key t < 33 * (y : Int) + x
  · exact hA t ht e hu
  · have hb := Qm.side_in (Qm.pic_of W H s.data.toList hw hh) ht
    have hd := (up_iff (Qm.isS_lt ht)).1 hu
    obtain ⟨a, b, d⟩ := t
    simp only [Qm.key] at hk e hb hd
    have e1 : a = x := by omega
    have e2 : b = y := by omega
    subst e1 e2
    rcases (show d = 0 ∨ d = 1 by omega) with rfl | rfl
    · exact h0.resolve_left (by rw [ht]; simp)
    · exact h1.resolve_left (by rw [ht]; simp)

/-- The walk downward finds a cycle, or the one to the right does, or neither. -/
theorem WalkOut.from1 (hw : W ≤ 32) (hh : H ≤ 32) {x y d n : Nat} {T : Nat → Bool} (hd : d ≤ 1) (hR : ∀ c ∈ R, Qm.Cyc (fB W H s pol draws) (bB W H s) c.1 c.2) (hA : Ahead (Pm.blackB W H s.data.toList) (fB W H s pol draws) R (33 * (y : Int) + x))
    (o : w'.ownsRow w.heap.size 43 2 v n (Qm.ptsV (Qm.ptsOf (fB W H s pol draws) (((x : Int), (y : Int), d), n)))) (hg : w.grownBy w' (some g)) (hk : Wk g W H s pol draws spk w') (ht : Tkn g T w') (hn : n ≤ 4356)
    (h0 : 0 < n) (hT : ¬ Qm.Tk (fB W H s pol draws) R ((x : Int), (y : Int), d)) (hc : Qm.Cyc (fB W H s pol draws) (bB W H s) ((x : Int), (y : Int), d) n) (hr : Qm.Rep (Pm.blackB W H s.data.toList) (fB W H s pol draws) T (R ++ [(((x : Int), (y : Int), d), n)])) :
    WalkFromOut g W H s pol draws spk R x y w v w' := by
  have st := Qm.step (Qm.pic_of W H s.data.toList hw hh) (Qm.jnB W H s.data.toList pol draws.data.toList)
  exact ⟨n, T, _, _, o, hg, hk, ht, hn, hr, hA.found hw hh hd hc, .inr ⟨h0, rfl, hc.canon st hR hT (fun t h1 h2 h3 => hA t h1 h2 h3), rfl⟩⟩
end

theorem own_len {w : World} {b : Nat} {t : TypeId} {sz : Nat} {v : Value} {n : Nat} {xs : List Value} (h : w.ownsRow b t sz v n xs) : ∃ ao cap, v = .slice ao n cap := by
  rcases h.2 with ⟨rfl, rfl⟩ | ⟨g, cap, cur, rfl, _⟩
  · exact ⟨_, _, rfl⟩
  · exact ⟨_, _, rfl⟩

set_option maxRecDepth 4000 in
set_option maxHeartbeats 2000000 in
theorem walkFrom_any (g W H : Nat) (s : ByteArray) (pol : Nat) (draws : ByteArray) (spk : Int) (R : List (Qm.Sd × Nat)) (T : Nat → Bool) (x y : Nat) (hx : x ≤ 32) (hy : y ≤ 32) (hp : pol ≤ 3) (w : World) (hW : Wk g W H s pol draws spk w) (hK : Tkn g T w) (hw2 : W ≤ 32) (hh2 : H ≤ 32) (hl : s.size = W * H)
    (hR : ∀ c ∈ R, Qm.Cyc (fB W H s pol draws) (bB W H s) c.1 c.2) (hr : Qm.Rep (Pm.blackB W H s.data.toList) (fB W H s pol draws) T R) (hA : Ahead (Pm.blackB W H s.data.toList) (fB W H s pol draws) R (33 * (y : Int) + x)) :
    Calls Try.prog 16 #[.pointer (some ⟨g, 0, none⟩), .agg #[.int .i64 x, .int .i64 y]] w fun e w' => ∃ v, e = .returned v ∧ WalkFromOut g W H s pol draws spk R x y w v w' := by
  have HL := hid hl
  have HR := hid hR
  have HA := hid hA
  have HRE := hid hr
  have HW := hid hW
  have HK := hid hK
  have hg := hW.2.2.2.2.2.2
  clear hl hR hA hr hW hK
  obtain ⟨X, hX⟩ : ∃ X, X = w.alloc (.cells #[.int .i64 x, .int .i64 y] 43) := ⟨_, rfl⟩
  have XB := hid (show Below w.heap.size w X by rw [hX]; go_grown)
  have x0 : X.cell? ⟨w.heap.size, 0, none⟩ = some (.int .i64 x) := by rw [hX]; simp
  have x1 : X.cell? ⟨w.heap.size, 1, none⟩ = some (.int .i64 y) := by rw [hX]; simp
  have xs : X.heap.size = w.heap.size + 1 := by rw [hX]; simp
  have XS := hid xs
  clear xs
  go_enter Try.func16, Try.ntmps16
  go_wp2_with fail
  rw [← hX]
  clear hX
  refine (walk_any g W H s pol draws spk R T x y 0 (by omega) hx hy hp _ (HW.out.on XB.out) (HK.out.on XB.out hg) hw2 hh2 HL.out HR.out HRE.out).mono ?_
  rintro e w1 ⟨v, rfl, n, T1, o1, g1, k1, t1, hn, h1⟩
  obtain ⟨ao, cap, rfl⟩ := own_len o1
  have O1 := hid (o1.mono (base' := w.heap.size) (by rw [XS.out]; omega))
  have G1 := hid (gb_trans (grown_of_below XB.out (some g)) g1)
  have K1 := hid k1
  have T1' := hid t1
  have H1 := hid h1
  have z1 := g1.size
  have x0' : w1.cell? ⟨w.heap.size, 0, none⟩ = some (.int .i64 x) := (World.cell?_of_block (a := ⟨w.heap.size, 0, none⟩) (g1.block _ (by rw [XS.out]; simp) (by simp; omega))).trans x0
  have x1' : w1.cell? ⟨w.heap.size, 1, none⟩ = some (.int .i64 y) := (World.cell?_of_block (a := ⟨w.heap.size, 1, none⟩) (g1.block _ (by rw [XS.out]; simp) (by simp; omega))).trans x1
  clear o1 g1 k1 t1 h1 x0 x1
  by_cases h0 : 0 < n
  · have h0' : (0 : Int) < (n : Nat) := by omega
    go_wp2
    go_ret
    rcases H1.out with ⟨e0, _⟩ | ⟨_, hT, hc, hr⟩
    · omega
    · exact ⟨_, rfl, WalkOut.from1 hw2 hh2 (by omega) HR.out HA.out O1.out G1.out K1.out T1'.out hn h0 hT hc hr⟩
  · have e0 : n = 0 := by omega
    subst e0
    go_wp2_with fail
    rcases H1.out with ⟨_, hnot, hrep⟩ | ⟨e0, _⟩
    · refine (walk_any g W H s pol draws spk R T1 x y 1 (by omega) hx hy hp _ K1.out T1'.out hw2 hh2 HL.out HR.out hrep).mono ?_
      rintro e w2 ⟨v, rfl, n, T2, o2, g2, k2, t2, hn2, h2⟩
      have O2 := hid (o2.mono (base' := w.heap.size) (Nat.le_trans XB.out.size (by omega)))
      have G2 := hid (gb_trans G1.out g2)
      have K2 := hid k2
      have T2' := hid t2
      have H2 := hid h2
      have HN := hid hnot
      clear o2 g2 k2 t2 h2 hnot hrep
      go_wp2
      go_ret
      rcases H2.out with ⟨e0, hnot2, hrep2⟩ | ⟨h0', hT, hc, hr⟩
      · subst e0
        exact ⟨_, rfl, 0, T2, R, _, O2.out, G2.out, K2.out, T2'.out, by omega, hrep2, HA.out.none hw2 hh2 hx HN.out hnot2, .inl ⟨rfl, rfl⟩⟩
      · exact ⟨_, rfl, WalkOut.from1 hw2 hh2 (by omega) HR.out HA.out O2.out G2.out K2.out T2'.out hn2 h0' hT hc hr⟩
    · omega
end Go.Proofs.Ytljfiefobnncaab
