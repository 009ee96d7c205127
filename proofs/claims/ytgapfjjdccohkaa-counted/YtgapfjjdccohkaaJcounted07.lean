import Derived.Test.YtgapfjjdccohkaaJcounted06
import Derived.Test.YtgapfjjdccohkaaJcounted03
import Derived.Test.YtgapfjjdccohkaaJcounted01

/- walk of package cycles, walked. -/
namespace Go.Proofs.Ytgapfjjdccohkaa
open Go.RowKit

section
variable {g W H : Nat} {s : ByteArray} {pol : Nat} {draws : ByteArray} {spk : Int} {R : List (Qm.Sd × Nat)} {s0 : Qm.Sd} {w : World} {m : Nat} {T : Nat → Bool} {v : Value} {wr : World}

/-- What comes out of a walk. -/
def WalkOut (g W H : Nat) (s : ByteArray) (pol : Nat) (draws : ByteArray) (spk : Int) (R : List (Qm.Sd × Nat)) (s0 : Qm.Sd) (w : World) (v : Value) (w' : World) : Prop :=
  ∃ (n : Nat) (T : Nat → Bool), w'.ownsRow w.heap.size 47 2 v n (Qm.ptsV (Qm.ptsOf (fB W H s pol draws) (s0, n))) ∧ w.grownBy w' (some g) ∧ Wk g W H s pol draws spk w' ∧ Tkn g T w' ∧ n ≤ 4356 ∧
  ((n = 0 ∧ (Qm.isS (Pm.blackB W H s.data.toList) s0 = false ∨ Qm.Tk (fB W H s pol draws) R s0) ∧ Qm.Rep (Pm.blackB W H s.data.toList) (fB W H s pol draws) T R) ∨
   (0 < n ∧ ¬ Qm.Tk (fB W H s pol draws) R s0 ∧ Qm.Cyc (fB W H s pol draws) (bB W H s) s0 n ∧ Qm.Rep (Pm.blackB W H s.data.toList) (fB W H s pol draws) T (R ++ [(s0, n)])))

theorem Wlk.out (h : Wlk g W H s pol draws spk R s0 w m T v wr) {w' : World} (hb : Below wr.heap.size wr w') (hw : W ≤ 32) (hh : H ≤ 32) (hR : ∀ c ∈ R, Qm.Cyc (fB W H s pol draws) (bB W H s) c.1 c.2)
    (he : Qm.isS (Pm.blackB W H s.data.toList) (Qm.it (fB W H s pol draws) m s0) = true → T (Qm.codeS (Qm.it (fB W H s pol draws) m s0)).toNat = true) : WalkOut g W H s pol draws spk R s0 w v w' := by
  have st := Qm.step (Qm.pic_of W H s.data.toList hw hh) (Qm.jnB W H s.data.toList pol draws.data.toList)
  refine ⟨m, T, (h.own.kept (grown_of_below hb none) (by cases v.ownBlock <;> simp)).mono (by omega), gb_trans h.grown (grown_of_below hb _), h.wk.on hb, h.tkn.on hb h.wk.2.2.2.2.2.2, by have := h.few; omega, ?_⟩
  rcases Nat.eq_zero_or_pos m with h0 | h0
  · subst h0
    refine .inl ⟨rfl, ?_, fun t ht => ?_⟩
    · cases hs : Qm.isS (Pm.blackB W H s.data.toList) s0 with
      | false => exact .inl rfl
      | true =>
        rcases (h.rep s0 hs).1 (he hs) with h1 | ⟨i, hi, _⟩
        · exact .inr h1
        · omega
    · rw [h.rep t ht]
      exact ⟨fun h => h.elim id (fun ⟨i, hi, _⟩ => by omega), .inl⟩
  · obtain ⟨s1, n1⟩ := h.side h0
    have hi := st.its s1 m
    refine .inr ⟨h0, n1, h.run.done st hR s1 n1 h0 ?_, h.rep.whole⟩
    rcases (h.rep _ hi).1 (he hi) with h1 | ⟨i, h1, h2⟩
    · exact .inl h1
    · exact .inr ⟨i, h1, h2⟩

theorem Wlk.start (g : Nat) (x y d : Nat) (t : TypeId) (hW : Wk g W H s pol draws spk w) (hK : Tkn g T w) (hr : Qm.Rep (Pm.blackB W H s.data.toList) (fB W H s pol draws) T R) :
    Wlk g W H s pol draws spk R ((x : Int), (y : Int), d) w 0 T (.slice none 0 0) (w.alloc (.cells #[.int .i64 x, .int .i64 y, .int .i64 d] t)) where
  box := ⟨by simp [Qm.it], by simp [Qm.it], by simp [Qm.it], by simp, by simp, by simp, by simp⟩
  own := World.ownsRow_nil _ _ _ _
  grown := World.grownBy_alloc _ _ _
  wk := hW.on ((Below.refl _ _).alloc (Nat.le_refl _) _)
  tkn := hK.on ((Below.refl _ _).alloc (Nat.le_refl _) _) hW.2.2.2.2.2.2
  rep := hr.zero _
  run := Qm.Run.zero _
  side h := absurd h (by omega)
  few := by have := Qm.cntF_le T 4356; omega

/-- A step more: the mark is set (w1), the point written behind the others (w3), the next side reckoned (w4) and laid into the box. -/
theorem Wlk.succ (h : Wlk g W H s pol draws spk R s0 w m T v wr) {w1 w3 w4 : World} {v' : Value} {o : Obj} (hw : W ≤ 32) (hh : H ≤ 32) (hg : g < w.heap.size)
    (hs : Qm.isS (Pm.blackB W H s.data.toList) (Qm.it (fB W H s pol draws) m s0) = true) (hT : T (Qm.codeS (Qm.it (fB W H s pol draws) m s0)).toNat = false)
    (g1 : wr.grownBy w1 (some g)) (k1 : Wk g W H s pol draws spk w1) (t1 : Tkn g (Qm.mark T (Qm.codeS (Qm.it (fB W H s pol draws) m s0)).toNat) w1)
    (o3 : w3.ownsRow (w.heap.size + 1) 47 2 v' (m + 1) (Qm.ptsV (Qm.ptsOf (fB W H s pol draws) (s0, m)) ++ Qm.ptV (Qm.fromP (Qm.it (fB W H s pol draws) m s0)))) (g3 : (w1.alloc o).grownBy w3 v.ownBlock) (b4 : Below w3.heap.size w3 w4) :
    Wlk g W H s pol draws spk R s0 w (m + 1) (Qm.mark T (Qm.codeS (Qm.it (fB W H s pol draws) m s0)).toNat) v'
      (((w4.setCell ⟨w.heap.size, 0, none⟩ (.int .i64 (Qm.it (fB W H s pol draws) (m + 1) s0).1)).setCell ⟨w.heap.size, 1, none⟩ (.int .i64 (Qm.it (fB W H s pol draws) (m + 1) s0).2.1)).setCell ⟨w.heap.size, 2, none⟩ (.int .i64 ((Qm.it (fB W H s pol draws) (m + 1) s0).2.2 : Nat))) := by
  have hp := Qm.pic_of W H s.data.toList hw hh
  have hfree := h.rep.free hs hT
  have z := h.box.2.2.2.2.2.2
  have z1 := g1.size
  have b13 : Below (w.heap.size + 1) w1 w3 := ((Below.refl _ _).alloc (by omega) _).grown g3 (by simp; omega) (fun k hk => (h.own.lt k hk).1)
  have z3 := b13.size
  have b14 : Below (w.heap.size + 1) w1 w4 := b13.trans (b4.mono (by omega))
  have b15 : ∀ a b c, Below w.heap.size w1 (((w4.setCell ⟨w.heap.size, 0, none⟩ a).setCell ⟨w.heap.size, 1, none⟩ b).setCell ⟨w.heap.size, 2, none⟩ c) := fun a b c =>
    (((b14.mono (by omega)).setCell (by simp) _).setCell (by simp) _).setCell (by simp) _
  have bx : BoxS w.heap.size (Qm.it (fB W H s pol draws) m s0) w4 := (h.box.of (g1.block _ z (by simp; omega)) g1.size).of (b14.block _ (by omega)) b14.size
  refine ⟨bx.set _, ?_, gb_below (gb_trans h.grown g1) (b15 _ _ _) (Nat.le_refl _), k1.onB (b15 _ _ _) hg, t1.on (b15 _ _ _) hg, h.rep.succ hp hs, h.run.succ hfree.2, fun _ => ?_, ?_⟩
  · rw [Qm.ptsOf_succ, Qm.ptsV_snoc]
    have o4 := o3.kept (grown_of_below b4 none) (by cases v'.ownBlock <;> simp)
    exact ownsRow_setCell_below (ownsRow_setCell_below (ownsRow_setCell_below o4 (by simp) _) (by simp) _) (by simp) _
  · rcases Nat.eq_zero_or_pos m with h0 | h0
    · subst h0; exact ⟨hs, hfree.1⟩
    · exact h.side h0
  · have c4 := Qm.code_in hp hs
    have := Qm.cntF_mark T (Qm.codeS (Qm.it (fB W H s pol draws) m s0)).toNat hT 4356 (by omega)
    have := h.few
    omega
end
end Go.Proofs.Ytgapfjjdccohkaa

/- walk, walkFrom of package cycles. -/
namespace Go.Proofs.Ytgapfjjdccohkaa
open Go.RowKit

theorem side_nat {W H : Nat} {s : ByteArray} (hw : W ≤ 32) (hh : H ≤ 32) {t : Qm.Sd} (hs : Qm.isS (Pm.blackB W H s.data.toList) t = true) : ∃ x y d : Nat, t = ((x : Int), (y : Int), d) ∧ x ≤ 32 ∧ y ≤ 32 ∧ d < 4 := by
  have hb := Qm.side_in (Qm.pic_of W H s.data.toList hw hh) hs
  have hd := Qm.isS_lt hs
  obtain ⟨x, y, d⟩ := t
  dsimp only at hb hd
  refine ⟨x.toNat, y.toNat, d, ?_, by omega, by omega, hd⟩
  rw [show ((x.toNat : Nat) : Int) = x from by omega, show ((y.toNat : Nat) : Int) = y from by omega]

theorem it_nat {W H : Nat} {s : ByteArray} {pol : Nat} {draws : ByteArray} (hw : W ≤ 32) (hh : H ≤ 32) (x y d : Nat) (hx : x ≤ 32) (hy : y ≤ 32) (hd : d < 4) (m : Nat)
    (hs : 0 < m → Qm.isS (Pm.blackB W H s.data.toList) ((x : Int), (y : Int), d) = true) :
    ∃ x' y' d' : Nat, Qm.it (fB W H s pol draws) m ((x : Int), (y : Int), d) = ((x' : Int), (y' : Int), d') ∧ x' ≤ 32 ∧ y' ≤ 32 ∧ d' < 4 := by
  rcases Nat.eq_zero_or_pos m with h0 | h0
  · subst h0; exact ⟨x, y, d, rfl, hx, hy, hd⟩
  · exact side_nat hw hh ((Qm.step (Qm.pic_of W H s.data.toList hw hh) (Qm.jnB W H s.data.toList pol draws.data.toList)).its (hs h0) m)

theorem en_nat {W H : Nat} {s : ByteArray} {pol : Nat} {draws : ByteArray} (hw : W ≤ 32) (hh : H ≤ 32) {t : Qm.Sd} (hs : Qm.isS (Pm.blackB W H s.data.toList) t = true) :
    ∃ px py : Nat, Qm.en t = ((px : Int), (py : Int)) ∧ px ≤ 32 ∧ py ≤ 32 ∧ fB W H s pol draws t = ((px : Int), (py : Int), Qm.nxD (Pm.blackB W H s.data.toList) (Qm.jnB W H s.data.toList pol draws.data.toList) ((px : Int), (py : Int)) t.2.2) := by
  obtain ⟨px, py, d, e, h1, h2, _⟩ := side_nat hw hh (Qm.nx_isS (jn := Qm.jnB W H s.data.toList pol draws.data.toList) hs)
  have e1 : Qm.en t = ((px : Int), (py : Int)) := Prod.ext (congrArg (fun s : Qm.Sd => s.1) e) (congrArg (fun s : Qm.Sd => s.2.1) e)
  exact ⟨px, py, e1, h1, h2, by rw [← e1]; show (_, _, _) = (_, _, _); rw [e1]⟩

theorem code_nat (x y d : Nat) : (Qm.codeS ((x : Int), (y : Int), d)).toNat = (y * 33 + x) * 4 + d := by simp only [Qm.codeS, Qm.key]; omega

theorem Wlk.kept {g W H : Nat} {s : ByteArray} {pol : Nat} {draws : ByteArray} {spk : Int} {R : List (Qm.Sd × Nat)} {s0 : Qm.Sd} {w : World} {m : Nat} {T : Nat → Bool} {v : Value} {wr w1 : World} (h : Wlk g W H s pol draws spk R s0 w m T v wr) (hg : g < w.heap.size) (g1 : wr.grownBy w1 (some g)) : w1.ownsRow (w.heap.size + 1) 47 2 v m (Qm.ptsV (Qm.ptsOf (fB W H s pol draws) (s0, m))) := by
  refine h.own.kept g1 ?_
  cases hv : v.ownBlock with
  | none => exact .inl rfl
  | some k => right; intro e; injection e with e; have := h.own.lt k hv; omega

set_option maxHeartbeats 2000000 in
theorem walk_any (g W H : Nat) (s : ByteArray) (pol : Nat) (draws : ByteArray) (spk : Int) (R : List (Qm.Sd × Nat)) (T : Nat → Bool) (x y d : Nat) (hd : d < 4) (hx : x ≤ 32) (hy : y ≤ 32) (hp : pol ≤ 3) (w : World) (hW : Wk g W H s pol draws spk w) (hK : Tkn g T w) (hw2 : W ≤ 32) (hh2 : H ≤ 32) (hl : s.size = W * H)
    (hR : ∀ c ∈ R, Qm.Cyc (fB W H s pol draws) (bB W H s) c.1 c.2) (hr : Qm.Rep (Pm.blackB W H s.data.toList) (fB W H s pol draws) T R) :
    Calls Try.prog 63 #[.pointer (some ⟨g, 0, none⟩), .agg #[.int .i64 x, .int .i64 y, .int .i64 d]] w fun e w' => ∃ v, e = .returned v ∧ WalkOut g W H s pol draws spk R ((x : Int), (y : Int), d) w v w' := by
  obtain ⟨i0, hi, hz0, hz1, hz2⟩ := info_parts infoPoint
  have HL := hid hl
  have HR := hid hR
  have hg := hW.2.2.2.2.2.2
  have HS := hid (Wlk.start g x y d 100 hW hK hr)
  clear hl hR hr hW hK
  go_enter Try.func63, Try.ntmps63
  go_wp2
  go_loopw [5] (fun v wr => ∃ (m : Nat) (T' : Nat → Bool), Hid (Wlk g W H s pol draws spk R ((x : Int), (y : Int), d) w m T' v wr)) (fun _ wr => unt g wr)
  case atStart => exact ⟨0, T, HS⟩
  case round =>
    clear HS
    obtain ⟨m, T', h⟩ := hrel
    obtain ⟨x', y', d', ht, hx', hy', hd'⟩ := it_nat (s := s) (pol := pol) (draws := draws) hw2 hh2 x y d hx hy hd m (fun h0 => (h.out.side h0).1)
    have HT := hid ht
    have hbox := h.out.box
    rw [ht] at hbox
    obtain ⟨b0, b1, b2, f0, f1, f2, hz⟩ := hbox
    dsimp only at b0 b1 b2
    have hcode := hid (code_nat x' y' d')
    clear ht
    obtain ⟨c, hc⟩ : ∃ c, c = (y' * 33 + x') * 4 + d' := ⟨_, rfl⟩
    cases hT : T' c
    · cases hs : Qm.isS (Pm.blackB W H s.data.toList) ((x' : Int), (y' : Int), d')
      · go_wp2_with fail
        refine (take_none g W H s pol draws spk T' x' y' d' c hd' hx' hy' hc hT _ h.out.wk h.out.tkn hw2 hh2 HL.out hs).mono ?_
        rintro e w1 ⟨rfl, hb⟩
        have HB := hid hb
        clear hb hc
        go_wp2
        go_ret
        exact ⟨_, rfl, h.out.out HB.out hw2 hh2 HR.out (fun hq => absurd hq (by rw [HT.out, hs]; simp))⟩
      · have HC := hid hc
        obtain ⟨px, py, he, hpx, hpy, hf⟩ := en_nat (pol := pol) (draws := draws) hw2 hh2 hs
        have HE := hid he
        have HF := hid hf
        have hm := h.out.few
        clear he hf
        go_wp2_with fail
        refine (take_yes g W H s pol draws spk T' x' y' d' c hd' hx' hy' hc hT _ h.out.wk h.out.tkn hw2 hh2 HL.out hs).mono ?_
        rintro e w1 ⟨rfl, g1, k1, t1⟩
        clear hc
        have G1 := hid g1
        have K1 := hid k1
        have T1 := hid t1
        have z1 := g1.size
        obtain ⟨b0', b1', b2', f0', f1', f2', hz'⟩ := (show BoxS w.heap.size ((x' : Int), (y' : Int), d') wr from ⟨b0, b1, b2, f0, f1, f2, hz⟩).of (w' := w1) (g1.block _ hz (by simp; omega)) g1.size
        clear b0 b1 b2 f0 f1 f2 g1 k1 t1
        dsimp only at b0' b1' b2'
        have O1 := hid (h.out.kept hg G1.out)
        have n1 : m + 1 ≤ maxLen := by unfold maxLen; omega
        have n2 : (m + 1) * 16 ≤ 140737488355328 := by omega
        have n3 : w.heap.size + 1 ≤ (w1.alloc (.cells #[.int .i64 x', .int .i64 y'] 47)).heap.size := by simp; omega
        go_wp2_with (first
          | (at_builtin; refine wpList_append_own _ rfl _ _ 41 rfl (w.heap.size + 1) 47 i0 (.agg #[.int .i64 0, .int .i64 0]) 2 16 Try.underlying41 hi hz0 hz1 hz2 rfl (by decide) _ _ _ rfl (O1.out.alloc _) ⟨_, 0, none⟩ 1 1 [.int .i64 x', .int .i64 y'] rfl rfl ?c1 ?c2 n1 n2 n3 ?_))
        case c1 =>
          intro j u hj
          match j, hj with
          | 0, hj => simp at hj; subst hj; simp [Addr.add]
          | 1, hj => simp at hj; subst hj; simp [Addr.add]
        case c2 => intro u hu; simp at hu; rcases hu with rfl | rfl <;> rfl
        intro v' w3 o3 g3 _
        have O3 := hid o3
        have G3 := hid g3
        have b13 : Below (w.heap.size + 1) w1 w3 := ((Below.refl _ _).alloc (by omega) _).grown g3 n3 (fun k hk => (h.out.own.lt k hk).1)
        have B13 := hid b13
        have z3 := b13.size
        obtain ⟨b0, b1, b2, f0, f1, f2, hz3⟩ := (show BoxS w.heap.size ((x' : Int), (y' : Int), d') w1 from ⟨b0', b1', b2', f0', f1', f2', hz'⟩).of (w' := w3) (b13.block _ (by omega)) b13.size
        dsimp only at b0 b1 b2
        clear o3 g3 b13 b0' b1' b2' f0' f1' f2' n3
        go_wp2_with fail
        refine (next_any g W H s pol draws spk x' y' d' px py hd' (by omega) (by omega) (by omega) (by omega) HE.out hp _ (K1.out.onB B13.out (by omega)) hw2 hh2 HL.out).mono ?_
        rintro e w4 ⟨rfl, b4⟩
        have B4 := hid b4
        have z4 := b4.size
        obtain ⟨b0', b1', b2', f0', f1', f2', hz4⟩ := (show BoxS w.heap.size ((x' : Int), (y' : Int), d') w3 from ⟨b0, b1, b2, f0, f1, f2, hz3⟩).of (w' := w4) (b4.block _ (by omega)) b4.size
        dsimp only at b0' b1' b2'
        clear b4 b0 b1 b2 f0 f1 f2
        have e1 : Qm.it (fB W H s pol draws) (m + 1) ((x : Int), (y : Int), d) = ((px : Int), (py : Int), Qm.nxD (Pm.blackB W H s.data.toList) (Qm.jnB W H s.data.toList pol draws.data.toList) ((px : Int), (py : Int)) d') := by
          show fB W H s pol draws (Qm.it (fB W H s pol draws) m ((x : Int), (y : Int), d)) = _
          rw [HT.out]; exact HF.out
        have ec : (Qm.codeS (Qm.it (fB W H s pol draws) m ((x : Int), (y : Int), d))).toNat = c := by rw [HT.out, hcode.out, HC.out]
        have hs2 : Qm.isS (Pm.blackB W H s.data.toList) (Qm.it (fB W H s pol draws) m ((x : Int), (y : Int), d)) = true := by rw [HT.out]; exact hs
        have N := h.out.succ (w1 := w1) (w3 := w3) (w4 := w4) (v' := v') (o := .cells #[.int .i64 x', .int .i64 y'] 47) hw2 hh2 hg hs2 (by rw [ec]; exact hT) G1.out K1.out (by rw [ec]; exact T1.out) (by rw [HT.out]; exact O3.out) G3.out B4.out
        rw [ec, e1] at N
        have HN := hid N
        have hmm := unt_of N.tkn
        have hm0 := unt_of h.out.tkn
        have hm1 := Qm.cntF_mark T' c hT 4356 (by have := HC.out; omega)
        have HM := hid (show unt g _ < unt g wr by rw [hmm, hm0]; omega)
        clear N hmm hm0 hm1 e1 ec hs2
        go_wp2
        go_roundw
        case rel => exact ⟨m + 1, _, HN⟩
        case measure => exact HM.out
    · go_wp2_with fail
      refine (take_no g W H s pol draws spk T' x' y' d' c hd' hx' hy' hc hT _ h.out.wk h.out.tkn).mono ?_
      rintro e w1 ⟨rfl, hb⟩
      have HB := hid hb
      have HC := hid hc
      clear hb hc
      go_wp2
      go_ret
      exact ⟨_, rfl, h.out.out HB.out hw2 hh2 HR.out (fun _ => by rw [HT.out, hcode.out, ← HC.out, hT])⟩
end Go.Proofs.Ytgapfjjdccohkaa

/- walkFrom of package cycles. -/
namespace Go.Proofs.Ytgapfjjdccohkaa
open Go.RowKit

/-- All sides that lead onward from points ahead of K are taken. -/
def Ahead (bl : Int → Int → Bool) (f : Qm.Sd → Qm.Sd) (R : List (Qm.Sd × Nat)) (K : Int) : Prop := ∀ t, Qm.isS bl t = true → Qm.key t < K → Qm.key t < Qm.key (f t) → Qm.Tk f R t

def WalkFromOut (g W H : Nat) (s : ByteArray) (pol : Nat) (draws : ByteArray) (spk : Int) (R : List (Qm.Sd × Nat)) (x y : Nat) (w : World) (v : Value) (w' : World) : Prop :=
  ∃ (n : Nat) (T : Nat → Bool) (R' : List (Qm.Sd × Nat)) (s0 : Qm.Sd), w'.ownsRow w.heap.size 47 2 v n (Qm.ptsV (Qm.ptsOf (fB W H s pol draws) (s0, n))) ∧ w.grownBy w' (some g) ∧ Wk g W H s pol draws spk w' ∧ Tkn g T w' ∧ n ≤ 4356 ∧
  Qm.Rep (Pm.blackB W H s.data.toList) (fB W H s pol draws) T R' ∧ Ahead (Pm.blackB W H s.data.toList) (fB W H s pol draws) R' (33 * (y : Int) + x + 1) ∧
  ((n = 0 ∧ R' = R) ∨ (0 < n ∧ R' = R ++ [(s0, n)] ∧ Qm.Canon (fB W H s pol draws) (bB W H s) Qm.key (s0, n) ∧ Qm.key s0 = 33 * (y : Int) + x))

section
variable {g W H : Nat} {s : ByteArray} {pol : Nat} {draws : ByteArray} {spk : Int} {R : List (Qm.Sd × Nat)} {w w' : World} {v : Value}

theorem up_iff {t : Qm.Sd} (h : t.2.2 < 4) : Qm.key t < Qm.key (fB W H s pol draws t) ↔ t.2.2 ≤ 1 := by
  rw [Qm.key_nx _ _ _ h]
  split
  · omega
  · split
    · omega
    · split <;> omega

theorem Ahead.found (hw : W ≤ 32) (hh : H ≤ 32) {x y d n : Nat} (hd : d ≤ 1) (hA : Ahead (Pm.blackB W H s.data.toList) (fB W H s pol draws) R (33 * (y : Int) + x)) (hc : Qm.Cyc (fB W H s pol draws) (bB W H s) ((x : Int), (y : Int), d) n) :
    Ahead (Pm.blackB W H s.data.toList) (fB W H s pol draws) (R ++ [(((x : Int), (y : Int), d), n)]) (33 * (y : Int) + x + 1) := by
  intro t ht hk hu
  have st := Qm.step (Qm.pic_of W H s.data.toList hw hh) (Qm.jnB W H s.data.toList pol draws.data.toList)
  by_cases e : Qm.key t < 33 * (y : Int) + x
  · obtain ⟨c, h1, h2⟩ := hA t ht e hu
    exact ⟨c, List.mem_append_left _ h1, h2⟩
  · have hk0 : Qm.key ((x : Int), (y : Int), d) = 33 * (y : Int) + x := rfl
    have := st.one t ((x : Int), (y : Int), d) ht hc.1 (by rw [hk0]; omega) hu ((up_iff (by show d < 4; omega)).2 hd)
    exact ⟨_, List.mem_append_right _ (List.mem_singleton.2 rfl), 0, hc.2.1, this⟩

theorem Ahead.none (hw : W ≤ 32) (hh : H ≤ 32) {x y : Nat} (hx : x ≤ 32) (hA : Ahead (Pm.blackB W H s.data.toList) (fB W H s pol draws) R (33 * (y : Int) + x))
    (h0 : Qm.isS (Pm.blackB W H s.data.toList) ((x : Int), (y : Int), 0) = false ∨ Qm.Tk (fB W H s pol draws) R ((x : Int), (y : Int), 0)) (h1 : Qm.isS (Pm.blackB W H s.data.toList) ((x : Int), (y : Int), 1) = false ∨ Qm.Tk (fB W H s pol draws) R ((x : Int), (y : Int), 1)) :
    Ahead (Pm.blackB W H s.data.toList) (fB W H s pol draws) R (33 * (y : Int) + x + 1) := by
  intro t ht hk hu
  by_cases e : Qm.key t < 33 * (y : Int) + x
  · exact hA t ht e hu
  · have hb := Qm.side_in (Qm.pic_of W H s.data.toList hw hh) ht
    have hd := (up_iff (Qm.isS_lt ht)).1 hu
    obtain ⟨a, b, d⟩ := t
    simp only [Qm.key] at hk e hb hd
    have e1 : a = x := by omega
    have e2 : b = y := by omega
    subst e1 e2
    rcases (show d = 0 ∨ d = 1 by omega) with rfl | rfl
    · exact h0.resolve_left (by rw [ht]; simp)
    · exact h1.resolve_left (by rw [ht]; simp)

/-- The walk downward finds a cycle, or the one to the right does, or neither. -/
theorem WalkOut.from1 (hw : W ≤ 32) (hh : H ≤ 32) {x y d n : Nat} {T : Nat → Bool} (hd : d ≤ 1) (hR : ∀ c ∈ R, Qm.Cyc (fB W H s pol draws) (bB W H s) c.1 c.2) (hA : Ahead (Pm.blackB W H s.data.toList) (fB W H s pol draws) R (33 * (y : Int) + x))
    (o : w'.ownsRow w.heap.size 47 2 v n (Qm.ptsV (Qm.ptsOf (fB W H s pol draws) (((x : Int), (y : Int), d), n)))) (hg : w.grownBy w' (some g)) (hk : Wk g W H s pol draws spk w') (ht : Tkn g T w') (hn : n ≤ 4356)
    (h0 : 0 < n) (hT : ¬ Qm.Tk (fB W H s pol draws) R ((x : Int), (y : Int), d)) (hc : Qm.Cyc (fB W H s pol draws) (bB W H s) ((x : Int), (y : Int), d) n) (hr : Qm.Rep (Pm.blackB W H s.data.toList) (fB W H s pol draws) T (R ++ [(((x : Int), (y : Int), d), n)])) :
    WalkFromOut g W H s pol draws spk R x y w v w' := by
  have st := Qm.step (Qm.pic_of W H s.data.toList hw hh) (Qm.jnB W H s.data.toList pol draws.data.toList)
  exact ⟨n, T, _, _, o, hg, hk, ht, hn, hr, hA.found hw hh hd hc, .inr ⟨h0, rfl, hc.canon st hR hT (fun t h1 h2 h3 => hA t h1 h2 h3), rfl⟩⟩
end

theorem own_len {w : World} {b : Nat} {t : TypeId} {sz : Nat} {v : Value} {n : Nat} {xs : List Value} (h : w.ownsRow b t sz v n xs) : ∃ ao cap, v = .slice ao n cap := by
  rcases h.2 with ⟨rfl, rfl⟩ | ⟨g, cap, cur, rfl, _⟩
  · exact ⟨_, _, rfl⟩
  · exact ⟨_, _, rfl⟩

set_option maxHeartbeats 2000000 in
theorem walkFrom_any (g W H : Nat) (s : ByteArray) (pol : Nat) (draws : ByteArray) (spk : Int) (R : List (Qm.Sd × Nat)) (T : Nat → Bool) (x y : Nat) (hx : x ≤ 32) (hy : y ≤ 32) (hp : pol ≤ 3) (w : World) (hW : Wk g W H s pol draws spk w) (hK : Tkn g T w) (hw2 : W ≤ 32) (hh2 : H ≤ 32) (hl : s.size = W * H)
    (hR : ∀ c ∈ R, Qm.Cyc (fB W H s pol draws) (bB W H s) c.1 c.2) (hr : Qm.Rep (Pm.blackB W H s.data.toList) (fB W H s pol draws) T R) (hA : Ahead (Pm.blackB W H s.data.toList) (fB W H s pol draws) R (33 * (y : Int) + x)) :
    Calls Try.prog 51 #[.pointer (some ⟨g, 0, none⟩), .agg #[.int .i64 x, .int .i64 y]] w fun e w' => ∃ v, e = .returned v ∧ WalkFromOut g W H s pol draws spk R x y w v w' := by
  have HL := hid hl
  have HR := hid hR
  have HA := hid hA
  have HRE := hid hr
  have HW := hid hW
  have HK := hid hK
  have hg := hW.2.2.2.2.2.2
  clear hl hR hA hr hW hK
  obtain ⟨X, hX⟩ : ∃ X, X = w.alloc (.cells #[.int .i64 x, .int .i64 y] 47) := ⟨_, rfl⟩
  have XB := hid (show Below w.heap.size w X by rw [hX]; go_grown)
  have x0 : X.cell? ⟨w.heap.size, 0, none⟩ = some (.int .i64 x) := by rw [hX]; simp
  have x1 : X.cell? ⟨w.heap.size, 1, none⟩ = some (.int .i64 y) := by rw [hX]; simp
  have xs : X.heap.size = w.heap.size + 1 := by rw [hX]; simp
  have XS := hid xs
  clear xs
  go_enter Try.func51, Try.ntmps51
  go_wp2_with fail
  rw [← hX]
  clear hX
  refine (walk_any g W H s pol draws spk R T x y 0 (by omega) hx hy hp _ (HW.out.on XB.out) (HK.out.on XB.out hg) hw2 hh2 HL.out HR.out HRE.out).mono ?_
  rintro e w1 ⟨v, rfl, n, T1, o1, g1, k1, t1, hn, h1⟩
  obtain ⟨ao, cap, rfl⟩ := own_len o1
  have O1 := hid (o1.mono (base' := w.heap.size) (by rw [XS.out]; omega))
  have G1 := hid (gb_trans (grown_of_below XB.out (some g)) g1)
  have K1 := hid k1
  have T1' := hid t1
  have H1 := hid h1
  have z1 := g1.size
  have x0' : w1.cell? ⟨w.heap.size, 0, none⟩ = some (.int .i64 x) := (World.cell?_of_block (a := ⟨w.heap.size, 0, none⟩) (g1.block _ (by rw [XS.out]; simp) (by simp; omega))).trans x0
  have x1' : w1.cell? ⟨w.heap.size, 1, none⟩ = some (.int .i64 y) := (World.cell?_of_block (a := ⟨w.heap.size, 1, none⟩) (g1.block _ (by rw [XS.out]; simp) (by simp; omega))).trans x1
  clear o1 g1 k1 t1 h1 x0 x1
  by_cases h0 : 0 < n
  · have h0' : (0 : Int) < (n : Nat) := by omega
    go_wp2
    go_ret
    rcases H1.out with ⟨e0, _⟩ | ⟨_, hT, hc, hr⟩
    · omega
    · exact ⟨_, rfl, WalkOut.from1 hw2 hh2 (by omega) HR.out HA.out O1.out G1.out K1.out T1'.out hn h0 hT hc hr⟩
  · have e0 : n = 0 := by omega
    subst e0
    go_wp2_with fail
    rcases H1.out with ⟨_, hnot, hrep⟩ | ⟨e0, _⟩
    · refine (walk_any g W H s pol draws spk R T1 x y 1 (by omega) hx hy hp _ K1.out T1'.out hw2 hh2 HL.out HR.out hrep).mono ?_
      rintro e w2 ⟨v, rfl, n, T2, o2, g2, k2, t2, hn2, h2⟩
      have O2 := hid (o2.mono (base' := w.heap.size) (Nat.le_trans XB.out.size (by omega)))
      have G2 := hid (gb_trans G1.out g2)
      have K2 := hid k2
      have T2' := hid t2
      have H2 := hid h2
      have HN := hid hnot
      clear o2 g2 k2 t2 h2 hnot hrep
      go_wp2
      go_ret
      rcases H2.out with ⟨e0, hnot2, hrep2⟩ | ⟨h0', hT, hc, hr⟩
      · subst e0
        exact ⟨_, rfl, 0, T2, R, _, O2.out, G2.out, K2.out, T2'.out, by omega, hrep2, HA.out.none hw2 hh2 hx HN.out hnot2, .inl ⟨rfl, rfl⟩⟩
      · exact ⟨_, rfl, WalkOut.from1 hw2 hh2 (by omega) HR.out HA.out O2.out G2.out K2.out T2'.out hn2 h0' hT hc hr⟩
    · omega
end Go.Proofs.Ytgapfjjdccohkaa

/- shape.Twice, cycles.mayBe. -/
namespace Go.Proofs.Ytgapfjjdccohkaa
open Go.RowKit

/-- The points of a row stand at block g. -/
def PtsAt (g : Nat) (l : List (Int × Int)) (w : World) : Prop := g < w.heap.size ∧ ∀ j, j < l.length → w.cell? ⟨g, j * 2, none⟩ = some (.int .i64 (l.getD j (0, 0)).1) ∧ w.cell? ⟨g, j * 2 + 1, none⟩ = some (.int .i64 (l.getD j (0, 0)).2)
theorem PtsAt.on {g : Nat} {l : List (Int × Int)} {w w' : World} {B : Nat} (h : PtsAt g l w) (hb : Below B w w') (hg : g < B) : PtsAt g l w' :=
  ⟨Nat.lt_of_lt_of_le h.1 hb.size, fun j hj => ⟨(hb.cell (p := ⟨g, j * 2, none⟩) hg).trans (h.2 j hj).1, (hb.cell (p := ⟨g, j * 2 + 1, none⟩) hg).trans (h.2 j hj).2⟩⟩
theorem ptsV_at (l : List (Int × Int)) : ∀ j, j < l.length → (Qm.ptsV l)[j * 2]? = some (.int .i64 (l.getD j (0, 0)).1) ∧ (Qm.ptsV l)[j * 2 + 1]? = some (.int .i64 (l.getD j (0, 0)).2) := by
  induction l with
  | nil => intro j hj; simp at hj
  | cons p l ih =>
    intro j hj
    cases j with
    | zero => simp [Qm.ptsV, Qm.ptV]
    | succ j =>
      have := ih j (by simpa using hj)
      have e : Qm.ptsV (p :: l) = .int .i64 p.1 :: .int .i64 p.2 :: Qm.ptsV l := by simp [Qm.ptsV, Qm.ptV]
      rw [e, show (j + 1) * 2 = j * 2 + 1 + 1 from by omega, show j * 2 + 1 + 1 + 1 = (j * 2 + 1) + 1 + 1 from by omega]
      simpa using this
theorem add_zero_at (g j : Nat) : (⟨g, 0, none⟩ : Addr).add j = ⟨g, j, none⟩ := by unfold Addr.add; split <;> simp_all
/-- A row that is owned and not empty stands at its block. -/
theorem own_at {w : World} {b : Nat} {t : TypeId} {v : Value} {l : List (Int × Int)} {n : Nat} (h : w.ownsRow b t 2 v n (Qm.ptsV l)) (hn : 0 < n) : ∃ g cap, v = .slice (some ⟨g, 0, none⟩) n cap ∧ b ≤ g ∧ PtsAt g l w ∧ n = l.length := by
  have hl := h.1
  rw [Qm.ptsV_len] at hl
  rcases h.2 with ⟨_, h0⟩ | ⟨g, cap, cur, rfl, hb, hg, _, _, _, _⟩
  · omega
  · refine ⟨g, cap, rfl, hb, ⟨(Array.getElem?_eq_some_iff.1 hg).1, fun j hj => ?_⟩, by omega⟩
    have c := fun j u hu => h.cells (g := g) rfl j u hu
    have p := ptsV_at l j hj
    have a1 := c _ _ p.1
    have a2 := c _ _ p.2
    rw [add_zero_at] at a1 a2
    exact ⟨a1, a2⟩

/-- A point's box at block B. -/
def BoxP (B : Nat) (p : Int × Int) (w : World) : Prop := w.cell? ⟨B, 0, none⟩ = some (.int .i64 p.1) ∧ w.cell? ⟨B, 1, none⟩ = some (.int .i64 p.2) ∧ w.frozen? ⟨B, 0, none⟩ = false ∧ w.frozen? ⟨B, 1, none⟩ = false ∧ B < w.heap.size

set_option maxHeartbeats 2000000 in
theorem twice_any (g n cap : Nat) (l : List (Int × Int)) (hn : n = l.length) (h0 : 0 < n) (hs : Qm.Small l) (hn2 : n ≤ 4356) (w : World) (hP : PtsAt g l w) :
    Calls Try.prog 52 #[.slice (some ⟨g, 0, none⟩) n cap] w fun e w' => e = .returned (.int .i64 (Qm.twiceOf l)) ∧ Below w.heap.size w w' := by
  have HP := hid hP
  have hg := hP.1
  have HN := hid hn
  obtain ⟨q0, q1⟩ := hP.2 (n - 1) (by omega)
  obtain ⟨n1, hn1⟩ : ∃ n1, n = n1 + 1 := ⟨n - 1, by omega⟩
  subst hn1
  have p0 := Qm.pr_zero l (by omega)
  rw [← hn] at p0
  simp only [Nat.add_sub_cancel] at q0 q1 p0
  rw [← p0] at q0 q1
  have e0 : ((n1 : Int) + 1 == 0) = false := by simp; omega
  clear hP hn p0
  go_enter Try.func52, Try.ntmps52
  go_wp2
  go_loopw [3, 5] (fun sm i wr => ∃ k : Nat, k ≤ n1 + 1 ∧ i = .int .i64 k ∧ sm = .int .i64 (Qm.tsum l k) ∧ BoxP w.heap.size (Qm.pr l k) wr ∧ Below w.heap.size w wr) (fun _ i _ => n1 + 1 - (intOf i).toNat)
  case atStart => exact ⟨0, by omega, rfl, rfl, ⟨by simp, by simp, by simp, by simp, by simp⟩, by go_grown⟩
  case round =>
    clear q0 q1 e0
    obtain ⟨k, hk, rfl, rfl, ⟨b0, b1, f0, f1, hz⟩, hb⟩ := hrel
    have HB := hid hb
    have ts := Qm.tsum_small hs k
    by_cases hlt : k < n1 + 1
    · obtain ⟨r0, r1⟩ := (HP.out.on hb hg).2 k (by have := HN.out; omega)
      have hlt' : (k : Int) < (n1 : Int) + 1 := by omega
      have sp := hs.at ((k + l.length - 1) % l.length)
      have sq := hs.at k
      have E1 := hid (Qm.pr_succ l k (by have := HN.out; omega))
      have m1 := Qm.mul_small sp.2.2.1 sp.2.2.2 sq.1 sq.2.1
      have m2 := Qm.mul_small sp.1 sp.2.1 sq.2.2.1 sq.2.2.2
      have E2 : Hid (Qm.tsum l (k + 1) = Qm.tsum l k + ((Qm.pr l k).2 * (l.getD k (0, 0)).1 - (Qm.pr l k).1 * (l.getD k (0, 0)).2)) := rfl
      change 0 ≤ (Qm.pr l k).1 ∧ (Qm.pr l k).1 ≤ 32 ∧ 0 ≤ (Qm.pr l k).2 ∧ (Qm.pr l k).2 ≤ 32 at sp
      change 0 ≤ (Qm.pr l k).2 * _ ∧ (Qm.pr l k).2 * _ ≤ 1024 at m1
      change 0 ≤ (Qm.pr l k).1 * _ ∧ (Qm.pr l k).1 * _ ≤ 1024 at m2
      obtain ⟨⟨pa, pb⟩, hpp⟩ : ∃ p, p = Qm.pr l k := ⟨_, rfl⟩
      obtain ⟨⟨qa, qb⟩, hqq⟩ : ∃ p, p = l.getD k (0, 0) := ⟨_, rfl⟩
      rw [← hpp] at b0 b1 m1 m2 sp E2
      rw [← hqq] at r0 r1 m1 m2 sq E1 E2
      dsimp only at b0 b1 r0 r1 m1 m2 sp sq
      obtain ⟨u, hu⟩ : ∃ u, pb * qa = u := ⟨_, rfl⟩
      obtain ⟨z, hzz⟩ : ∃ z, pa * qb = z := ⟨_, rfl⟩
      rw [hu] at m1
      rw [hzz] at m2
      clear hb hpp hqq
      go_wp2
      go_roundw
      case rel => exact ⟨k + 1, by omega, by go_num, by rw [E2.out]; dsimp only; rw [hu, hzz], by rw [E1.out]; exact ⟨by simp [go_sem, World.cell?_setCell_other, World.cell?_setCell_same', *], by simp [go_sem, World.cell?_setCell_other, World.cell?_setCell_same', *], by rw [frozen?_alloc_cells]; simpa using f0, by rw [frozen?_alloc_cells]; simpa using f1, by simp; omega⟩, ((HB.out.setCell (by simp) _).setCell (by simp) _).alloc (by simp; omega) _⟩
      case measure => simp [intOf]; omega
    · have ek : k = n1 + 1 := by omega
      subst ek
      go_wp2
      go_ret
      exact ⟨ret_int (by rw [HN.out]; exact Qm.tsum_all l (by have := HN.out; omega)), HB.out⟩

/-- May it be traced? -/
def mayB (W H : Int) (l : List UInt8) (pol spk : Int) : Bool := Pm.goodB W H l && decide (0 ≤ pol ∧ pol ≤ 3) && decide (0 ≤ spk ∧ spk ≤ 1024)
theorem mayB_pol {W H : Int} {l : List UInt8} {pol spk : Int} (h : ¬ (0 ≤ pol ∧ pol ≤ 3)) : mayB W H l pol spk = false := by unfold mayB; rw [decide_eq_false h]; simp
theorem mayB_spk {W H : Int} {l : List UInt8} {pol spk : Int} (h : ¬ (0 ≤ spk ∧ spk ≤ 1024)) : mayB W H l pol spk = false := by unfold mayB; rw [decide_eq_false h]; simp
theorem mayB_good {W H : Int} {l : List UInt8} {pol spk : Int} (h : 0 ≤ pol ∧ pol ≤ 3) (h2 : 0 ≤ spk ∧ spk ≤ 1024) : mayB W H l pol spk = Pm.goodB W H l := by unfold mayB; rw [decide_eq_true h, decide_eq_true h2]; simp

set_option maxHeartbeats 1000000 in
theorem mayBe_any (W H : Int) (s : ByteArray) (pol : Int) (draws : ByteArray) (spk : Int) (w : World) :
    Calls Try.prog 50 #[.agg #[.int .i64 W, .int .i64 H, .string s], .agg #[.int .i64 pol, .string draws, .int .i64 spk]] w fun e w' => e = .returned (.bool (mayB W H s.data.toList pol spk)) ∧ Below w.heap.size w w' := by
  by_cases p0 : pol < 0
  · have E := hid (mayB_pol (W := W) (H := H) (l := s.data.toList) (pol := pol) (spk := spk) (by omega))
    go_enter Try.func50, Try.ntmps50
    go_wp2
    go_ret
    exact ⟨ret_bool E.out.symm, by go_grown⟩
  by_cases p1 : 3 < pol
  · have E := hid (mayB_pol (W := W) (H := H) (l := s.data.toList) (pol := pol) (spk := spk) (by omega))
    go_enter Try.func50, Try.ntmps50
    go_wp2
    go_ret
    exact ⟨ret_bool E.out.symm, by go_grown⟩
  by_cases s0 : spk < 0
  · have E := hid (mayB_spk (W := W) (H := H) (l := s.data.toList) (pol := pol) (spk := spk) (by omega))
    go_enter Try.func50, Try.ntmps50
    go_wp2
    go_ret
    exact ⟨ret_bool E.out.symm, by go_grown⟩
  by_cases s1 : 1024 < spk
  · have E := hid (mayB_spk (W := W) (H := H) (l := s.data.toList) (pol := pol) (spk := spk) (by omega))
    go_enter Try.func50, Try.ntmps50
    go_wp2
    go_ret
    exact ⟨ret_bool E.out.symm, by go_grown⟩
  · have E := hid (mayB_good (W := W) (H := H) (l := s.data.toList) (pol := pol) (spk := spk) (by omega) (by omega))
    go_enter Try.func50, Try.ntmps50
    go_wp2_with (go_at_call 62; refine (isOne_any W H s _).mono ?_; rintro e w' ⟨rfl, rfl⟩)
    go_ret
    exact ⟨ret_bool E.out.symm, by go_grown⟩
end Go.Proofs.Ytgapfjjdccohkaa
