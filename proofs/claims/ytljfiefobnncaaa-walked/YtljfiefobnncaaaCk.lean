/- walkFrom of package cycles. -/
import Derived.Test.YtljfiefobnncaaaCj
namespace Go.Proofs.Ytljfiefobnncaaa
open Go.RowKit

/-- All sides that lead onward from points ahead of K are taken. -/
def Ahead (bl : Int → Int → Bool) (f : Qm.Sd → Qm.Sd) (R : List (Qm.Sd × Nat)) (K : Int) : Prop := ∀ t, Qm.isS bl t = true → Qm.key t < K → Qm.key t < Qm.key (f t) → Qm.Tk f R t

def WalkFromOut (g W H : Nat) (s : ByteArray) (pol : Nat) (draws : ByteArray) (spk : Int) (R : List (Qm.Sd × Nat)) (x y : Nat) (w : World) (v : Value) (w' : World) : Prop :=
  ∃ (n : Nat) (T : Nat → Bool) (R' : List (Qm.Sd × Nat)) (s0 : Qm.Sd), w'.ownsRow w.heap.size 47 2 v n (Qm.ptsV (Qm.ptsOf (fB W H s pol draws) (s0, n))) ∧ w.grownBy w' (some g) ∧ Wk g W H s pol draws spk w' ∧ Tkn g T w' ∧ n ≤ 4356 ∧
  Qm.Rep (Pm.blackB W H s.data.toList) (fB W H s pol draws) T R' ∧ Ahead (Pm.blackB W H s.data.toList) (fB W H s pol draws) R' (33 * (y : Int) + x + 1) ∧
  ((n = 0 ∧ R' = R) ∨ (0 < n ∧ R' = R ++ [(s0, n)] ∧ Qm.Canon (fB W H s pol draws) (bB W H s) Qm.key (s0, n) ∧ Qm.key s0 = 33 * (y : Int) + x))

section
variable {g W H : Nat} {s : ByteArray} {pol : Nat} {draws : ByteArray} {spk : Int} {R : List (Qm.Sd × Nat)} {w w' : World} {v : Value}

theorem up_iff {t : Qm.Sd} (h : t.2.2 < 4) : Qm.key t < Qm.key (fB W H s pol draws t) ↔ t.2.2 ≤ 1 := by
  rw [Qm.key_nx _ _ _ h]
  split
  · omega
  · split
    · omega
    · split <;> omega

theorem Ahead.found (hw : W ≤ 32) (hh : H ≤ 32) {x y d n : Nat} (hd : d ≤ 1) (hA : Ahead (Pm.blackB W H s.data.toList) (fB W H s pol draws) R (33 * (y : Int) + x)) (hc : Qm.Cyc (fB W H s pol draws) (bB W H s) ((x : Int), (y : Int), d) n) :
    Ahead (Pm.blackB W H s.data.toList) (fB W H s pol draws) (R ++ [(((x : Int), (y : Int), d), n)]) (33 * (y : Int) + x + 1) := by
  intro t ht hk hu
  have st := Qm.step (Qm.pic_of W H s.data.toList hw hh) (Qm.jnB W H s.data.toList pol draws.data.toList)
  by_cases e : Qm.key t < 33 * (y : Int) + x
  · obtain ⟨c, h1, h2⟩ := hA t ht e hu
    exact ⟨c, List.mem_append_left _ h1, h2⟩
  · have hk0 : Qm.key ((x : Int), (y : Int), d) = 33 * (y : Int) + x := rfl
    have := st.one t ((x : Int), (y : Int), d) ht hc.1 (by rw [hk0]; omega) hu ((up_iff (by show d < 4; omega)).2 hd)
    exact ⟨_, List.mem_append_right _ (List.mem_singleton.2 rfl), 0, hc.2.1, this⟩

theorem Ahead.none (hw : W ≤ 32) (hh : H ≤ 32) {x y : Nat} (hx : x ≤ 32) (hA : Ahead (Pm.blackB W H s.data.toList) (fB W H s pol draws) R (33 * (y : Int) + x))
    (h0 : Qm.isS (Pm.blackB W H s.data.toList) ((x : Int), (y : Int), 0) = false ∨ Qm.Tk (fB W H s pol draws) R ((x : Int), (y : Int), 0)) (h1 : Qm.isS (Pm.blackB W H s.data.toList) ((x : Int), (y : Int), 1) = false ∨ Qm.Tk (fB W H s pol draws) R ((x : Int), (y : Int), 1)) :
    Ahead (Pm.blackB W H s.data.toList) (fB W H s pol draws) R (33 * (y : Int) + x + 1) := by
  intro t ht hk hu
  by_cases e : Qm.key t < 33 * (y : Int) + x
  · exact hA t ht e hu
  · have hb := Qm.side_in (Qm.pic_of W H s.data.toList hw hh) ht
    have hd := (up_iff (Qm.isS_lt ht)).1 hu
    obtain ⟨a, b, d⟩ := t
    simp only [Qm.key] at hk e hb hd
    have e1 : a = x := by omega
    have e2 : b = y := by omega
    subst e1 e2
    rcases (show d = 0 ∨ d = 1 by omega) with rfl | rfl
    · exact h0.resolve_left (by rw [ht]; simp)
    · exact h1.resolve_left (by rw [ht]; simp)

/-- The walk downward finds a cycle, or the one to the right does, or neither. -/
theorem WalkOut.from1 (hw : W ≤ 32) (hh : H ≤ 32) {x y d n : Nat} {T : Nat → Bool} (hd : d ≤ 1) (hR : ∀ c ∈ R, Qm.Cyc (fB W H s pol draws) (bB W H s) c.1 c.2) (hA : Ahead (Pm.blackB W H s.data.toList) (fB W H s pol draws) R (33 * (y : Int) + x))
    (o : w'.ownsRow w.heap.size 47 2 v n (Qm.ptsV (Qm.ptsOf (fB W H s pol draws) (((x : Int), (y : Int), d), n)))) (hg : w.grownBy w' (some g)) (hk : Wk g W H s pol draws spk w') (ht : Tkn g T w') (hn : n ≤ 4356)
    (h0 : 0 < n) (hT : ¬ Qm.Tk (fB W H s pol draws) R ((x : Int), (y : Int), d)) (hc : Qm.Cyc (fB W H s pol draws) (bB W H s) ((x : Int), (y : Int), d) n) (hr : Qm.Rep (Pm.blackB W H s.data.toList) (fB W H s pol draws) T (R ++ [(((x : Int), (y : Int), d), n)])) :
    WalkFromOut g W H s pol draws spk R x y w v w' := by
  have st := Qm.step (Qm.pic_of W H s.data.toList hw hh) (Qm.jnB W H s.data.toList pol draws.data.toList)
  exact ⟨n, T, _, _, o, hg, hk, ht, hn, hr, hA.found hw hh hd hc, .inr ⟨h0, rfl, hc.canon st hR hT (fun t h1 h2 h3 => hA t h1 h2 h3), rfl⟩⟩
end

theorem own_len {w : World} {b : Nat} {t : TypeId} {sz : Nat} {v : Value} {n : Nat} {xs : List Value} (h : w.ownsRow b t sz v n xs) : ∃ ao cap, v = .slice ao n cap := by
  rcases h.2 with ⟨rfl, rfl⟩ | ⟨g, cap, cur, rfl, _⟩
  · exact ⟨_, _, rfl⟩
  · exact ⟨_, _, rfl⟩

set_option maxHeartbeats 2000000 in
theorem walkFrom_any (g W H : Nat) (s : ByteArray) (pol : Nat) (draws : ByteArray) (spk : Int) (R : List (Qm.Sd × Nat)) (T : Nat → Bool) (x y : Nat) (hx : x ≤ 32) (hy : y ≤ 32) (hp : pol ≤ 3) (w : World) (hW : Wk g W H s pol draws spk w) (hK : Tkn g T w) (hw2 : W ≤ 32) (hh2 : H ≤ 32) (hl : s.size = W * H)
    (hR : ∀ c ∈ R, Qm.Cyc (fB W H s pol draws) (bB W H s) c.1 c.2) (hr : Qm.Rep (Pm.blackB W H s.data.toList) (fB W H s pol draws) T R) (hA : Ahead (Pm.blackB W H s.data.toList) (fB W H s pol draws) R (33 * (y : Int) + x)) :
    Calls Try.prog 59 #[.pointer (some ⟨g, 0, none⟩), .agg #[.int .i64 x, .int .i64 y]] w fun e w' => ∃ v, e = .returned v ∧ WalkFromOut g W H s pol draws spk R x y w v w' := by
  have HL := hid hl
  have HR := hid hR
  have HA := hid hA
  have HRE := hid hr
  have HW := hid hW
  have HK := hid hK
  have hg := hW.2.2.2.2.2.2
  clear hl hR hA hr hW hK
  obtain ⟨X, hX⟩ : ∃ X, X = w.alloc (.cells #[.int .i64 x, .int .i64 y] 47) := ⟨_, rfl⟩
  have XB := hid (show Below w.heap.size w X by rw [hX]; go_grown)
  have x0 : X.cell? ⟨w.heap.size, 0, none⟩ = some (.int .i64 x) := by rw [hX]; simp
  have x1 : X.cell? ⟨w.heap.size, 1, none⟩ = some (.int .i64 y) := by rw [hX]; simp
  have xs : X.heap.size = w.heap.size + 1 := by rw [hX]; simp
  have XS := hid xs
  clear xs
  go_enter Try.func59, Try.ntmps59
  go_wp2_with fail
  rw [← hX]
  clear hX
  refine (walk_any g W H s pol draws spk R T x y 0 (by omega) hx hy hp _ (HW.out.on XB.out) (HK.out.on XB.out hg) hw2 hh2 HL.out HR.out HRE.out).mono ?_
  rintro e w1 ⟨v, rfl, n, T1, o1, g1, k1, t1, hn, h1⟩
  obtain ⟨ao, cap, rfl⟩ := own_len o1
  have O1 := hid (o1.mono (base' := w.heap.size) (by rw [XS.out]; omega))
  have G1 := hid (gb_trans (grown_of_below XB.out (some g)) g1)
  have K1 := hid k1
  have T1' := hid t1
  have H1 := hid h1
  have z1 := g1.size
  have x0' : w1.cell? ⟨w.heap.size, 0, none⟩ = some (.int .i64 x) := (World.cell?_of_block (a := ⟨w.heap.size, 0, none⟩) (g1.block _ (by rw [XS.out]; simp) (by simp; omega))).trans x0
  have x1' : w1.cell? ⟨w.heap.size, 1, none⟩ = some (.int .i64 y) := (World.cell?_of_block (a := ⟨w.heap.size, 1, none⟩) (g1.block _ (by rw [XS.out]; simp) (by simp; omega))).trans x1
  clear o1 g1 k1 t1 h1 x0 x1
  by_cases h0 : 0 < n
  · have h0' : (0 : Int) < (n : Nat) := by omega
    go_wp2
    go_ret
    rcases H1.out with ⟨e0, _⟩ | ⟨_, hT, hc, hr⟩
    · omega
    · exact ⟨_, rfl, WalkOut.from1 hw2 hh2 (by omega) HR.out HA.out O1.out G1.out K1.out T1'.out hn h0 hT hc hr⟩
  · have e0 : n = 0 := by omega
    subst e0
    go_wp2_with fail
    rcases H1.out with ⟨_, hnot, hrep⟩ | ⟨e0, _⟩
    · refine (walk_any g W H s pol draws spk R T1 x y 1 (by omega) hx hy hp _ K1.out T1'.out hw2 hh2 HL.out HR.out hrep).mono ?_
      rintro e w2 ⟨v, rfl, n, T2, o2, g2, k2, t2, hn2, h2⟩
      have O2 := hid (o2.mono (base' := w.heap.size) (Nat.le_trans XB.out.size (by omega)))
      have G2 := hid (gb_trans G1.out g2)
      have K2 := hid k2
      have T2' := hid t2
      have H2 := hid h2
      have HN := hid hnot
      clear o2 g2 k2 t2 h2 hnot hrep
      go_wp2
      go_ret
      rcases H2.out with ⟨e0, hnot2, hrep2⟩ | ⟨h0', hT, hc, hr⟩
      · subst e0
        exact ⟨_, rfl, 0, T2, R, _, O2.out, G2.out, K2.out, T2'.out, by omega, hrep2, HA.out.none hw2 hh2 hx HN.out hnot2, .inl ⟨rfl, rfl⟩⟩
      · exact ⟨_, rfl, WalkOut.from1 hw2 hh2 (by omega) HR.out HA.out O2.out G2.out K2.out T2'.out hn2 h0' hT hc hr⟩
    · omega
end Go.Proofs.Ytljfiefobnncaaa
