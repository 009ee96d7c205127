import Derived.Test.YtljfiefobnncaabDoorK07
import Derived.Maps.AppendAt
import Derived.Test.YtljfiefobnncaabDoorK02
import Derived.Test.YtljfiefobnncaabDoorK01
import Derived.Test.YtljfiefobnncaabDoorK04
import Derived.Deep.RegionWith
import Derived.Deep.QuietTactic
import Derived.BigQuiet

/- Lists of shapes of any points: what one owns, one more of them. -/
namespace Go.Proofs.YtljfiefobnncaabDoor
open Go.RowKit

def shpP (L : List (Value × List (Int × Int))) : List Value := L.flatMap fun p => [p.1, .int .i64 (Qm.twiceOf p.2)]
theorem shpP_snoc (L : List (Value × List (Int × Int))) (p : Value × List (Int × Int)) : shpP (L ++ [p]) = shpP L ++ [p.1, .int .i64 (Qm.twiceOf p.2)] := by simp [shpP]
/-- The row of shapes and each shape's points have blocks of their own, from b on. -/
structure RowP (b : Nat) (vl : Value) (L : List (Value × List (Int × Int))) (w : World) : Prop where
  row : w.ownsRow b 42 2 vl L.length (shpP L)
  pts : ∀ p ∈ L, w.ownsRow b 46 2 p.1 p.2.length (Qm.ptsV p.2)
  apart : (vl :: L.map (·.1)).Pairwise fun a c => a.ownBlock = none ∨ a.ownBlock ≠ c.ownBlock
theorem RowP.nil (b : Nat) (w : World) : RowP b (.slice none 0 0) [] w := ⟨World.ownsRow_nil _ _ _ _, fun p hp => by simp at hp, by simp⟩
theorem RowP.on {b : Nat} {vl : Value} {L : List (Value × List (Int × Int))} {w w' : World} (h : RowP b vl L w) (hb : Below w.heap.size w w') : RowP b vl L w' :=
  ⟨own_below h.row hb, fun p hp => own_below (h.pts p hp) hb, h.apart⟩
theorem RowP.mono {b b' : Nat} {vl : Value} {L : List (Value × List (Int × Int))} {w : World} (h : RowP b vl L w) (hb : b' ≤ b) : RowP b' vl L w :=
  ⟨h.row.mono hb, fun p hp => (h.pts p hp).mono hb, h.apart⟩
theorem RowP.snoc {b : Nat} {vl : Value} {L : List (Value × List (Int × Int))} {wr w2 w3 w4 : World} {v vl' : Value} {l : List (Int × Int)} {o : Obj} (h : RowP b vl L wr) (hbz : b ≤ wr.heap.size) (b2 : Below wr.heap.size wr w2)
    (ho : w2.ownsRow wr.heap.size 46 2 v l.length (Qm.ptsV l)) (hn : 0 < l.length) (b3 : Below w2.heap.size w2 w3)
    (o4 : w4.ownsRow b 42 2 vl' (L.length + 1) (shpP L ++ [v, .int .i64 (Qm.twiceOf l)])) (g4 : (w3.alloc o).grownBy w4 vl.ownBlock) (e4 : vl'.ownBlock = vl.ownBlock ∨ vl'.ownBlock = some (w3.heap.size + 1)) :
    RowP b vl' (L ++ [(v, l)]) w4 := by
  have z2 := b2.size
  have z3 := b3.size
  have vb : ∃ k, v.ownBlock = some k ∧ wr.heap.size ≤ k ∧ k < w2.heap.size := by
    obtain ⟨k, cap, e, hb, hp, _⟩ := own_at ho hn
    exact ⟨k, by rw [e]; rfl, hb, hp.1⟩
  obtain ⟨k, vk, k1, k2⟩ := vb
  have vlne : ∀ q, vl.ownBlock = some q → b ≤ q ∧ q < wr.heap.size := fun q hq => h.row.lt q hq
  have keep : ∀ {u : Value} {m : Nat} {xs : List Value} {b : Nat}, w2.ownsRow b 46 2 u m xs → (u.ownBlock = .none ∨ u.ownBlock ≠ vl.ownBlock) → w4.ownsRow b 46 2 u m xs := fun hu hne =>
    (own_below hu (b3.trans ((Below.refl _ _).alloc (by omega) o))).kept g4 hne
  have pl : ∀ p ∈ L, w2.ownsRow b 46 2 p.1 p.2.length (Qm.ptsV p.2) := fun p hp => own_below (h.pts p hp) b2
  have ap := List.pairwise_cons.1 h.apart
  have pn : ∀ p ∈ L, p.1.ownBlock = .none ∨ p.1.ownBlock ≠ vl.ownBlock := fun p hp => by
    rcases ap.1 p.1 (List.mem_map_of_mem hp) with e | e
    · cases hpb : p.1.ownBlock with
      | none => exact .inl rfl
      | some q => right; rw [e]; simp
    · exact .inr (Ne.symm e)
  have plt : ∀ p ∈ L, ∀ q, p.1.ownBlock = some q → q < wr.heap.size := fun p hp q hq => ((h.pts p hp).lt q hq).2
  have vne : v.ownBlock ≠ vl.ownBlock := fun e => by rw [vk] at e; have := vlne k e.symm; omega
  refine ⟨?_, ?_, ?_⟩
  · rw [shpP_snoc, List.length_append]; exact o4
  · intro p hp
    rcases List.mem_append.1 hp with hp | hp
    · exact keep (pl p hp) (pn p hp)
    · rw [List.mem_singleton] at hp; subst hp
      exact keep (ho.mono hbz) (.inr vne)
  · rw [List.map_append]
    refine List.pairwise_cons.2 ⟨fun a ha => ?_, List.pairwise_append.2 ⟨ap.2, by simp, fun a ha b hb => ?_⟩⟩
    · right
      intro e
      have hlt : ∃ q, vl'.ownBlock = some q := by
        rcases o4.2 with ⟨_, h0⟩ | ⟨g', cap', _, e', _⟩
        · omega
        · exact ⟨g', by rw [e']; rfl⟩
      obtain ⟨q, hq⟩ := hlt
      rcases List.mem_append.1 ha with ha | ha
      · obtain ⟨p, hp, rfl⟩ := List.mem_map.1 ha
        rcases e4 with e4 | e4
        · rcases pn p hp with e5 | e5
          · rw [e5, hq] at e; cases e
          · exact e5 (e.symm.trans e4)
        · have := plt p hp _ (e.symm.trans e4); omega
      · simp only [List.map_cons, List.map_nil, List.mem_singleton] at ha
        subst ha
        rcases e4 with e4 | e4
        · exact vne (e.symm.trans e4)
        · rw [vk] at e
          have := Option.some.inj (e4.symm.trans e)
          omega
    · obtain ⟨p, hp, rfl⟩ := List.mem_map.1 ha
      simp only [List.map_cons, List.map_nil, List.mem_singleton] at hb
      subst hb
      right
      intro e
      rw [vk] at e
      have := plt p hp k e
      omega

namespace Qm
theorem cornTo_pos (B : List Rw) : ∀ k, 0 < k → 0 < (cornTo B k).1.length
  | 0, h => absurd h (Nat.lt_irrefl _)
  | 1, _ => by simp [cornTo]
  | k + 2, _ => by
    have := cornTo_pos B (k + 1) (by omega)
    rw [cornTo]
    split
    · simp
    · exact this
theorem cornL_pos {c : List Pt} (h : 0 < c.length) : 0 < (cornL c).length := by
  unfold cornL cornN; rw [List.length_map]; exact cornTo_pos _ _ h
theorem cornL_le (c : List Pt) : (cornL c).length ≤ c.length := by
  unfold cornL cornN; rw [List.length_map]; exact (cornTo_in (rowsTo_span _ _) c.length).2.2
theorem cornL_small {c : List Pt} (h : Small c) : Small (cornL c) := fun p hp => by
  obtain ⟨i, _, rfl⟩ := List.mem_map.1 hp
  exact h.at i
/-- Is it no speckle? -/
def bigB (f : Sd → Sd) (spk : Int) (c : Sd × Nat) : Bool := decide (2 * spk < absZ (twiceOf (ptsOf f c)))
/-- The polygons. -/
def polys (f : Sd → Sd) (spk : Int) (R : List (Sd × Nat)) : List (List Pt) := (R.filter (bigB f spk)).map fun c => cornL (ptsOf f c)
theorem polys_next {f : Sd → Sd} {spk : Int} {R : List (Sd × Nat)} {i : Nat} (hi : i < R.length) : polys f spk (R.take (i + 1)) = if bigB f spk R[i] then polys f spk (R.take i) ++ [cornL (ptsOf f R[i])] else polys f spk (R.take i) := by
  unfold polys
  rw [List.take_add_one, List.getElem?_eq_getElem hi, List.filter_append, List.map_append]
  simp only [Option.toList_some, List.filter_cons, List.filter_nil]
  split <;> simp
end Qm

set_option maxRecDepth 4000 in
set_option maxHeartbeats 1000000 in
theorem isSpeckle_any (vp : Value) (tw spk : Int) (h1 : -9000000 ≤ tw) (h2 : tw ≤ 9000000) (s0 : 0 ≤ spk) (s1 : spk ≤ 1024) (ao : Option Addr) (n cap : Nat) (hv : vp = .slice ao n cap) (w : World) :
    Calls Tryd.prog 19 #[.agg #[vp, .int .i64 tw], .int .i64 spk] w fun e w' => e = .returned (.bool (!decide (2 * spk < Qm.absZ tw))) ∧ Below w.heap.size w w' := by
  subst hv
  have SZ := hid (fun W' => size_any tw (by omega) (by omega) W')
  have az : 0 ≤ Qm.absZ tw ∧ Qm.absZ tw ≤ 9000000 := by unfold Qm.absZ; split <;> omega
  obtain ⟨y, hy⟩ : ∃ y, Qm.absZ tw = y := ⟨_, rfl⟩
  rw [hy] at SZ az ⊢
  clear hy
  have DD := hid (show (!decide (2 * spk < y)) = decide (y ≤ 2 * spk) by by_cases h : y ≤ 2 * spk <;> simp [h] <;> omega)
  go_enter Tryd.func19, Tryd.ntmps19
  go_wp2_with fail
  refine (SZ.out _).mono ?_
  rintro e w1 ⟨rfl, e1⟩
  have B1 := hid (show Below w.heap.size w w1 by rw [e1]; go_grown)
  clear e1
  go_wp2
  go_ret
  exact ⟨ret_bool DD.out.symm, B1.out⟩
end Go.Proofs.YtljfiefobnncaabDoor

/- Package polygons: Find; outline.Trace. -/
namespace Go.Proofs.YtljfiefobnncaabDoor
open Go.RowKit

set_option maxRecDepth 4000 in
set_option maxHeartbeats 400000 in
theorem polyFind_no (W H : Int) (s : ByteArray) (pol : Int) (draws : ByteArray) (spk : Int) (w : World) (hm : mayB W H s.data.toList pol spk = false) :
    Calls Tryd.prog 13 #[.agg #[.int .i64 W, .int .i64 H, .string s], .agg #[.int .i64 pol, .string draws, .int .i64 spk]] w fun e w' => e = .returned (.tuple #[.slice none 0 0, .int .i64 4]) ∧ Below w.heap.size w w' := by
  go_enter Tryd.func13, Tryd.ntmps13
  go_wp2_with fail
  refine (find_no W H s pol draws spk _ hm).mono ?_
  rintro e w1 ⟨rfl, hb⟩
  have HB := hid hb
  clear hb
  go_wp2
  go_ret2
  exact ⟨rfl, Below.trans (b := _) (by go_grown) (HB.out.mono (by simp; omega))⟩

theorem Shown.at' {f : Qm.Sd → Qm.Sd} {al : Option Addr} {cl n : Nat} {L : List (Value × (Qm.Sd × Nat))} {X : World} (h : Shown f (.slice al n cl) L X) {R : List (Qm.Sd × Nat)} (hR : R = L.map (·.2)) {gl : Nat} (hc : ∀ j u, (shpV f L)[j]? = some u → X.cell? ⟨gl, j, none⟩ = some u) {i : Nat} (hi : i < R.length) :
    ∃ g c, 0 < R[i].2 ∧ PtsAt g (Qm.ptsOf f R[i]) X ∧ X.cell? ⟨gl, i * 2, none⟩ = some (.slice (some ⟨g, 0, none⟩) R[i].2 c) ∧ X.cell? ⟨gl, i * 2 + 1, none⟩ = some (.int .i64 (Qm.twiceOf (Qm.ptsOf f R[i]))) := by
  subst hR
  have hi' : i < L.length := by simpa using hi
  obtain ⟨g, c, e, h0, hp⟩ := h.pts L[i] (List.getElem_mem hi')
  have s := shpV_at f L i hi'
  rw [e] at s
  refine ⟨g, c, ?_⟩
  simp only [List.getElem_map]
  exact ⟨h0, hp, hc _ _ s.1, hc _ _ s.2⟩
theorem vt_cells (w : World) (a : Value) (b : Int) (t : TypeId) (ao : Option Addr) (n c : Nat) (ha : a = .slice ao n c) : ∀ (j : Nat) (u : Value), [a, .int .i64 b][j]? = some u → (w.alloc (.cells #[a, .int .i64 b] t)).cell? ((⟨w.heap.size, 0, none⟩ : Addr).add j) = some u := by
  subst ha
  intro j u hj
  match j, hj with
  | 0, hj => simp at hj; subst hj; simp [Addr.add]
  | 1, hj => simp at hj; subst hj; simp [Addr.add]
theorem vt_one (b : Int) (ao : Option Addr) (n c : Nat) : ∀ u ∈ [Value.slice ao n c, .int .i64 b], u.oneCell' = true := by
  intro u hu; simp at hu; rcases hu with rfl | rfl <;> rfl

def TraceOut (W H : Nat) (s : ByteArray) (pol : Nat) (draws : ByteArray) (spk : Int) (w : World) (vl : Value) (w' : World) : Prop :=
  ∃ (R : List (Qm.Sd × Nat)) (L : List (Value × List (Int × Int))), Qm.Res (fB W H s pol draws) (bB W H s) Qm.key R ∧ L.map (·.2) = Qm.polys (fB W H s pol draws) spk R ∧ RowP w.heap.size vl L w' ∧ R.length ≤ 1200 ∧ Below w.heap.size w w'

set_option maxRecDepth 4000 in
set_option maxHeartbeats 2000000 in
theorem polyFind_yes (W H : Nat) (s : ByteArray) (pol : Nat) (draws : ByteArray) (spk : Int) (w : World) (hm : mayB W H s.data.toList pol spk = true) (hw2 : W ≤ 32) (hh2 : H ≤ 32) (hl : s.size = W * H) (hp : pol ≤ 3) (s0 : 0 ≤ spk) (s1 : spk ≤ 1024) :
    Calls Tryd.prog 13 #[.agg #[.int .i64 W, .int .i64 H, .string s], .agg #[.int .i64 pol, .string draws, .int .i64 spk]] w fun e w' => ∃ vl, e = .returned (.tuple #[vl, .int .i64 0]) ∧ TraceOut W H s pol draws spk w vl w' := by
  obtain ⟨i0, hi, hz0, hz1, hz2⟩ := info_parts infoShape
  have HL := hid hl
  clear hl
  go_enter Tryd.func13, Tryd.ntmps13
  go_wp2_with fail
  refine (find_yes W H s pol draws spk _ hm hw2 hh2 HL.out hp).mono ?_
  rintro e w1 ⟨vl, rfl, Lc, hR, hRow, hb1, hLn⟩
  have B1 := hid (show Below w.heap.size w w1 from Below.trans (b := _) (by go_grown) (hb1.mono (by simp; omega)))
  have z1 := hb1.size
  simp at z1
  have c2 := (bcell hb1).1 (w.heap.size + 1) 2 (by simp)
  simp at c2
  have SH := hid (hRow.shown (fun q hq => (hR.1 q.2 (List.mem_map_of_mem hq)).1.2.1))
  obtain ⟨al, cl, rfl, hrow⟩ := SH.out.row
  have RES := hid hR
  have HROW := hid hrow
  clear hR hRow hrow hb1
  obtain ⟨R, hRR⟩ : ∃ R, R = Lc.map (·.2) := ⟨_, rfl⟩
  rw [← hRR] at RES
  have RR := hid hRR
  clear hRR
  obtain ⟨n, hn⟩ : ∃ n, n = Lc.length := ⟨_, rfl⟩
  have RL := hid (show R.length = n by rw [RR.out, List.length_map, hn])
  rw [← hn] at hLn HROW SH ⊢
  clear hn
  obtain ⟨f, hf⟩ : ∃ f, f = fB W H s pol draws := ⟨_, rfl⟩
  have SM := hid (show ∀ c ∈ R, Qm.Small (Qm.ptsOf f c) ∧ c.2 ≤ 4356 ∧ 0 < c.2 from fun c hc => by rw [hf]; exact ⟨small_pts hw2 hh2 (RES.out.1 c hc).1, cyc_le hw2 hh2 (RES.out.1 c hc).1, (RES.out.1 c hc).1.2.1⟩)
  rw [← hf] at SH HROW
  have TO := hid (show ∀ L vl' wr, L.map (·.2) = Qm.polys f spk (R.take n) → RowP w.heap.size vl' L wr → Below w.heap.size w wr → TraceOut W H s pol draws spk w vl' wr from fun L vl' wr h1 h2 h3 => ⟨R, L, RES.out, by rw [h1, ← RL.out, List.take_length, hf], h2, by rw [RL.out]; exact hLn, h3⟩)
  clear hf
  go_wp2_with fail
  go_loopw [8, 9] (fun lv iv wr => ∃ (i : Nat) (L : List (Value × List (Int × Int))), i ≤ n ∧ iv = .int .i64 i ∧ L.length ≤ i ∧ L.map (·.2) = Qm.polys f spk (R.take i) ∧ RowP w1.heap.size lv L wr ∧ Below w1.heap.size w1 wr) (fun _ i _ => n - (intOf i).toNat)
  case atStart => exact ⟨0, [], by omega, rfl, by simp, rfl, RowP.nil _ _, Below.refl _ _⟩
  case round =>
    obtain ⟨i, L, hin, rfl, hLi, hpl, hrp, hb⟩ := hrel
    have HB := hid hb
    have RP := hid hrp
    have PL := hid hpl
    have hz := hb.size
    by_cases hlt : i < n
    · obtain ⟨gl, rfl, hgl, hc⟩ := HROW.out.resolve_left (by omega)
      have hlt' : (i : Int) < (n : Nat) := by omega
      have hiR : i < R.length := by rw [RL.out]; exact hlt
      obtain ⟨g, c, m0, hpt, d0, d1⟩ := SH.out.at' RR.out hc hiR
      obtain ⟨sm, hle, _⟩ := SM.out R[i] (List.getElem_mem hiR)
      have PN := hid (Qm.polys_next (f := f) (spk := spk) hiR)
      have tws := Qm.fsum_small sm (Qm.ptsOf f R[i]).length
      rw [← Qm.twiceOf_fsum, Qm.ptsOf_len] at tws
      have BG := hid (show Qm.bigB f spk R[i] = decide (2 * spk < Qm.absZ (Qm.twiceOf (Qm.ptsOf f R[i]))) from rfl)
      have PLN := Qm.ptsOf_len f R[i]
      obtain ⟨cy, hcy⟩ : ∃ cy, cy = R[i] := ⟨_, rfl⟩
      rw [← hcy] at m0 hpt d0 d1 sm hle PN tws BG PLN
      obtain ⟨m, hm⟩ : ∃ m, m = cy.2 := ⟨_, rfl⟩
      rw [← hm] at m0 d0 hle tws PLN
      obtain ⟨ps, hps⟩ : ∃ ps, ps = Qm.ptsOf f cy := ⟨_, rfl⟩
      rw [← hps] at hpt d1 sm PN tws BG PLN
      have hg : g < w1.heap.size := hpt.1
      have HPT := hid hpt
      have e0 := (hb.cell (p := ⟨gl, i * 2, none⟩) hgl).trans d0
      have e1 := (hb.cell (p := ⟨gl, i * 2 + 1, none⟩) hgl).trans d1
      have e2 := (hb.cell (p := ⟨w.heap.size + 1, 2, none⟩) (show w.heap.size + 1 < _ by omega)).trans c2
      have IS := hid (fun W' => isSpeckle_any (.slice (some ⟨g, 0, none⟩) m c) (Qm.twiceOf ps) spk (by omega) (by omega) s0 s1 _ _ _ rfl W')
      rw [← BG.out] at IS
      have CR := hid (fun W' (h : Below w1.heap.size w1 W') => corners_any g m c ps PLN.symm m0 sm hle W' (HPT.out.on h hg))
      have cpos := Qm.cornL_pos (c := ps) (by omega)
      have cle := Qm.cornL_le ps
      have TW := hid (fun g' n' cap' (hn' : n' = (Qm.cornL ps).length) W' (h : PtsAt g' (Qm.cornL ps) W') => twice_any g' n' cap' (Qm.cornL ps) hn' (by omega) (Qm.cornL_small sm) (by omega) W' h)
      obtain ⟨tw, htw⟩ : ∃ tw, tw = Qm.twiceOf ps := ⟨_, rfl⟩
      rw [← htw] at e1 IS
      obtain ⟨bg, hbg⟩ : ∃ bg, bg = Qm.bigB f spk cy := ⟨_, rfl⟩
      rw [← hbg] at IS PN
      obtain ⟨cl', hcl'⟩ : ∃ q, q = Qm.cornL ps := ⟨_, rfl⟩
      rw [← hcl'] at CR TW PN cpos cle
      clear hb hrp hpl hpt hc d0 d1 hcy hm hps htw hbg hcl' BG tws sm
      have S0 := hid (show wr.drew.cell? ⟨gl, i * 2, none⟩ = some (.slice (some ⟨g, 0, none⟩) m c) ∧ wr.drew.cell? ⟨gl, i * 2 + 1, none⟩ = some (.int .i64 tw) ∧ wr.drew.cell? ⟨w.heap.size + 1, 2, none⟩ = some (.int .i64 spk) from ⟨e0, e1, e2⟩)
      have HBD := hid (show Below w1.heap.size w1 wr.drew from HB.out.trans ⟨rfl, rfl, rfl, Nat.le_refl _, fun _ _ => rfl⟩)
      have RPD := hid (show RowP w1.heap.size _ L wr.drew from RP.out.on ⟨rfl, rfl, rfl, Nat.le_refl _, fun _ _ => rfl⟩)
      have zD : w1.heap.size ≤ wr.drew.heap.size := hz
      have glD : gl < wr.drew.heap.size := by omega
      have woD : w.heap.size + 1 < wr.drew.heap.size := by omega
      clear HB RP
      go_wp2_with fail
      go_region_held3 (fun w' => w'.cell? ⟨gl, i * 2, none⟩ = some (.slice (some ⟨g, 0, none⟩) m c) ∧ w'.cell? ⟨gl, i * 2 + 1, none⟩ = some (.int .i64 tw) ∧ w'.cell? ⟨w.heap.size + 1, 2, none⟩ = some (.int .i64 spk))
        (first | exact S0.out | exact (by assumption : _ ∧ _ ∧ _))
        (first | (go_at_call 19; refine (IS.out _).mono ?_; rintro e w2 ⟨rfl, hb2⟩; have hS2 : w2.cell? ⟨gl, i * 2, none⟩ = some (.slice (some ⟨g, 0, none⟩) m c) ∧ w2.cell? ⟨gl, i * 2 + 1, none⟩ = some (.int .i64 tw) ∧ w2.cell? ⟨w.heap.size + 1, 2, none⟩ = some (.int .i64 spk) := ⟨(hb2.cell (p := ⟨gl, i * 2, none⟩) glD).trans S0.out.1, (hb2.cell (p := ⟨gl, i * 2 + 1, none⟩) glD).trans S0.out.2.1, (hb2.cell (p := ⟨w.heap.size + 1, 2, none⟩) woD).trans S0.out.2.2⟩; have B2 := hid (show Below w1.heap.size w1 w2 from HBD.out.trans (hb2.mono zD)); have RP2 := hid (RPD.out.on hb2); have z2 : w1.heap.size ≤ w2.heap.size := Nat.le_trans zD hb2.size; clear hb2))
      clear e0 e1 e2
      obtain ⟨f0, -, -⟩ := hS2
      cases bg
      · go_wp2
        go_roundw
        case rel => exact ⟨i + 1, L, by omega, by go_num, by omega, by rw [PN.out]; exact PL.out, RP2.out, B2.out⟩
        case measure => simp [intOf]; omega
      · go_wp2_with fail
        refine (CR.out _ B2.out).mono ?_
        rintro e w3 ⟨v3, rfl, o3, b3⟩
        obtain ⟨g3, cap3, rfl, hg3, hp3, -⟩ := own_at o3 cpos
        have O3 := hid o3
        have HB3 := hid b3
        have HP3 := hid hp3
        have z3 := b3.size
        clear o3 b3 hp3 f0
        obtain ⟨nc, hnc⟩ : ∃ nc, nc = cl'.length := ⟨_, rfl⟩
        rw [← hnc]
        have HNC := hid hnc
        clear hnc
        go_wp2_with fail
        refine (TW.out _ _ _ HNC.out _ HP3.out).mono ?_
        rintro e w4 ⟨rfl, b4⟩
        have HB4 := hid b4
        have z4 := b4.size
        clear b4
        obtain ⟨t4, ht4⟩ : ∃ t4, t4 = Qm.twiceOf cl' := ⟨_, rfl⟩
        rw [← ht4]
        have HT4 := hid ht4
        clear ht4
        have n1 : L.length + 1 ≤ maxLen := by unfold maxLen; omega
        have n2 : (L.length + 1) * 32 ≤ 140737488355328 := by omega
        have n3 : w1.heap.size ≤ (w4.alloc (.cells #[.slice (some ⟨g3, 0, none⟩) nc cap3, .int .i64 t4] 42)).heap.size := by simp; omega
        have R4 := hid ((RP2.out.on HB3.out).on HB4.out)
        go_wp2_with (first
          | (at_builtin; refine wpList_append_own_at _ rfl _ _ 27 rfl w1.heap.size 42 i0 (.agg #[.slice none 0 0, .int .i64 0]) 2 32 Tryd.underlying27 hi hz0 hz1 hz2 rfl (by decide) _ _ _ rfl (R4.out.row.alloc _) ⟨_, 0, none⟩ 1 1 [.slice (some ⟨g3, 0, none⟩) nc cap3, .int .i64 t4] rfl rfl (vt_cells _ _ _ _ _ _ _ rfl) (vt_one _ _ _ _) n1 n2 n3 ?_))
        intro vl' w5 o5 g5 _ e5
        have RP5 := hid (RP2.out.snoc (v := .slice (some ⟨g3, 0, none⟩) nc cap3) (l := cl') (vl' := vl') (by omega) HB3.out (by rw [HNC.out] at *; exact O3.out) cpos HB4.out (by rw [← HT4.out]; exact o5) g5 (by simpa using e5))
        have B5 := hid (show Below w1.heap.size w1 w5 from (((B2.out.trans (HB3.out.mono (by omega))).trans (HB4.out.mono (by omega))).alloc (by omega) _).grown g5 n3 (fun q hq => (R4.out.row.lt q hq).1))
        clear o5 g5 e5
        go_wp2
        go_roundw
        case rel => exact ⟨i + 1, L ++ [(.slice (some ⟨g3, 0, none⟩) nc cap3, cl')], by omega, by go_num, by simp; omega, by rw [PN.out, List.map_append, PL.out]; rfl, RP5.out, B5.out⟩
        case measure => simp [intOf]; omega
    · have ei : i = n := by omega
      subst ei
      have hlt' : ¬ (i : Int) < (i : Nat) := by omega
      go_wp2
      go_ret2
      exact ⟨_, rfl, TO.out L _ _ PL.out (RP.out.mono B1.out.size) (B1.out.trans (HB.out.mono B1.out.size))⟩
end Go.Proofs.YtljfiefobnncaabDoor

/- outline.Trace; lists of shapes to be read; outlinekeep.sameShapes. -/
namespace Go.Proofs.YtljfiefobnncaabDoor
open Go.RowKit

set_option maxRecDepth 4000 in
set_option maxHeartbeats 400000 in
theorem trace_no (W H : Int) (s : ByteArray) (pol : Int) (draws : ByteArray) (spk : Int) (w : World) (hm : mayB W H s.data.toList pol spk = false) :
    Calls Tryd.prog 6 #[.agg #[.int .i64 W, .int .i64 H, .string s], .agg #[.int .i64 pol, .string draws, .int .i64 spk]] w fun e w' => e = .returned (.tuple #[.slice none 0 0, .int .i64 4]) ∧ Below w.heap.size w w' := by
  go_enter Tryd.func6, Tryd.ntmps6
  go_wp2_with fail
  refine (polyFind_no W H s pol draws spk _ hm).mono ?_
  rintro e w1 ⟨rfl, hb⟩
  have HB := hid hb
  clear hb
  go_wp2
  go_ret2
  exact ⟨rfl, Below.trans (b := _) (by go_grown) (HB.out.mono (by simp; omega))⟩

set_option maxRecDepth 4000 in
set_option maxHeartbeats 400000 in
theorem trace_yes (W H : Nat) (s : ByteArray) (pol : Nat) (draws : ByteArray) (spk : Int) (w : World) (hm : mayB W H s.data.toList pol spk = true) (hw2 : W ≤ 32) (hh2 : H ≤ 32) (hl : s.size = W * H) (hp : pol ≤ 3) (s0 : 0 ≤ spk) (s1 : spk ≤ 1024) :
    Calls Tryd.prog 6 #[.agg #[.int .i64 W, .int .i64 H, .string s], .agg #[.int .i64 pol, .string draws, .int .i64 spk]] w fun e w' => ∃ vl, e = .returned (.tuple #[vl, .int .i64 0]) ∧ TraceOut W H s pol draws spk w vl w' := by
  have HL := hid hl
  clear hl
  go_enter Tryd.func6, Tryd.ntmps6
  go_wp2_with fail
  refine (polyFind_yes W H s pol draws spk _ hm hw2 hh2 HL.out hp s0 s1).mono ?_
  rintro e w1 ⟨vl, rfl, R, L, h1, h2, h3, h4, h5⟩
  have H1 := hid h1
  have H2 := hid h2
  have H3 := hid h3
  have H5 := hid h5
  clear h1 h2 h3 h5
  go_wp2
  go_ret2
  exact ⟨vl, rfl, R, L, H1.out, H2.out, H3.out.mono (by simp; omega), h4, Below.trans (b := _) (by go_grown) (H5.out.mono (by simp; omega))⟩

/-- A list of shapes, to be read. -/
structure ShownP (vl : Value) (L : List (Value × List (Int × Int))) (w : World) : Prop where
  row : ∃ ao cap, vl = .slice ao L.length cap ∧ (L.length = 0 ∨ ∃ gl, ao = some ⟨gl, 0, none⟩ ∧ gl < w.heap.size ∧ ∀ j u, (shpP L)[j]? = some u → w.cell? ⟨gl, j, none⟩ = some u)
  pts : ∀ p ∈ L, ∃ g cap, p.1 = .slice (some ⟨g, 0, none⟩) p.2.length cap ∧ 0 < p.2.length ∧ PtsAt g p.2 w
theorem RowP.shown {b : Nat} {vl : Value} {L : List (Value × List (Int × Int))} {w : World} (h : RowP b vl L w) (hn : ∀ p ∈ L, 0 < p.2.length) : ShownP vl L w := by
  refine ⟨?_, fun p hp => ?_⟩
  · obtain ⟨ao, cap, e⟩ := own_len h.row
    refine ⟨ao, cap, e, ?_⟩
    rcases h.row.2 with ⟨_, h0⟩ | ⟨g, cap', cur, e', _, hg, _⟩
    · exact .inl h0
    · right
      have e2 : ao = some ⟨g, 0, none⟩ := by rw [e] at e'; injection e'
      refine ⟨g, e2, (Array.getElem?_eq_some_iff.1 hg).1, fun j u hu => ?_⟩
      have := h.row.cells (g := g) (by rw [e']; rfl) j u hu
      rwa [add_zero_at] at this
  · obtain ⟨g, cap, e, _, h2, _⟩ := own_at (h.pts p hp) (hn p hp)
    exact ⟨g, cap, e, hn p hp, h2⟩
theorem ShownP.on {vl : Value} {L : List (Value × List (Int × Int))} {w w' : World} (h : ShownP vl L w) (hb : Below w.heap.size w w') : ShownP vl L w' := by
  refine ⟨?_, fun p hp => ?_⟩
  · obtain ⟨ao, cap, e, h1⟩ := h.row
    refine ⟨ao, cap, e, h1.imp id ?_⟩
    rintro ⟨gl, e2, h3, h4⟩
    exact ⟨gl, e2, Nat.lt_of_lt_of_le h3 hb.size, fun j u hu => (hb.cell (p := ⟨gl, j, none⟩) h3).trans (h4 j u hu)⟩
  · obtain ⟨g, cap, e, h2, h4⟩ := h.pts p hp
    exact ⟨g, cap, e, h2, h4.on hb h4.1⟩
theorem shpP_at (L : List (Value × List (Int × Int))) : ∀ (j : Nat) (h : j < L.length), (shpP L)[j * 2]? = some L[j].1 ∧ (shpP L)[j * 2 + 1]? = some (.int .i64 (Qm.twiceOf L[j].2)) := by
  induction L with
  | nil => intro j h; simp at h
  | cons p L ih =>
    intro j h
    have e : shpP (p :: L) = p.1 :: .int .i64 (Qm.twiceOf p.2) :: shpP L := by simp [shpP]
    cases j with
    | zero => rw [e]; simp
    | succ j =>
      have := ih j (by simpa using h)
      rw [e, show (j + 1) * 2 = j * 2 + 1 + 1 from by omega, show j * 2 + 1 + 1 + 1 = (j * 2 + 1) + 1 + 1 from by omega]
      simpa using this

set_option maxRecDepth 4000 in
set_option maxHeartbeats 1000000 in
theorem sameShapes_any (vl vm : Value) (La Lm : List (Value × List (Int × Int))) (w : World) (hR : La.map (·.2) = Lm.map (·.2)) (ha : ShownP vl La w) (hb : ShownP vm Lm w) (hn1 : La.length ≤ 9223372036854775807) (hm1 : ∀ p ∈ La, p.2.length ≤ 9223372036854775807) :
    Calls Tryd.prog 10 #[vl, vm] w fun e w' => e = .returned (.bool true) ∧ Below w.heap.size w w' := by
  have hlen : La.length = Lm.length := by have := congrArg List.length hR; simpa using this
  obtain ⟨aa, ca, rfl, hra⟩ := ha.row
  obtain ⟨ab, cb, rfl, hrb⟩ := hb.row
  obtain ⟨n, hn⟩ : ∃ n, n = La.length := ⟨_, rfl⟩
  rw [← hlen] at hrb ⊢
  rw [← hn] at hra hrb hn1 ⊢
  have HM1 := hid hm1
  clear hm1
  have HN := hid hn
  have HLEN := hid hlen
  have HRA := hid hra
  have HRB := hid hrb
  have HA := hid ha.pts
  have HB := hid hb.pts
  have HR := hid hR
  clear hn hlen hra hrb ha hb hR
  go_enter Tryd.func10, Tryd.ntmps10
  go_wp2
  go_loopw [5] (fun iv wr => ∃ i : Nat, i ≤ n ∧ iv = .int .i64 i ∧ Below w.heap.size w wr) (fun i _ => n - (intOf i).toNat)
  case atStart => exact ⟨0, by omega, rfl, Below.refl _ _⟩
  case round =>
    obtain ⟨i, hin, rfl, hbl⟩ := hrel
    have BL := hid hbl
    clear hbl
    by_cases hlt : i < n
    · obtain ⟨ga, rfl, hga, hca⟩ := HRA.out.resolve_left (by omega)
      obtain ⟨gb, rfl, hgb, hcb⟩ := HRB.out.resolve_left (by omega)
      have hia : i < La.length := by have := HN.out; omega
      have hib : i < Lm.length := by have := HN.out; have := HLEN.out; omega
      have sa := shpP_at La i hia
      have sb := shpP_at Lm i hib
      have e2 : La[i].2 = Lm[i].2 := by
        have := congrArg (fun l => l[i]?) HR.out
        simpa [hia, hib] using this
      obtain ⟨pa, hpa⟩ : ∃ p, p = La[i] := ⟨_, rfl⟩
      obtain ⟨pb, hpb⟩ : ∃ p, p = Lm[i] := ⟨_, rfl⟩
      obtain ⟨g1, c1, v1, n1, t1⟩ := HA.out pa (by rw [hpa]; exact List.getElem_mem hia)
      obtain ⟨g2, c2, v2, n2, t2⟩ := HB.out pb (by rw [hpb]; exact List.getElem_mem hib)
      rw [← hpa] at sa e2
      rw [← hpb] at sb e2
      rw [← e2] at sb t2 v2 n2
      obtain ⟨m, hm⟩ : ∃ m, m = pa.2.length := ⟨_, rfl⟩
      have mb : m ≤ 9223372036854775807 := by rw [hm]; exact HM1.out pa (by rw [hpa]; exact List.getElem_mem hia)
      obtain ⟨tw, htw⟩ : ∃ tw, tw = Qm.twiceOf pa.2 := ⟨_, rfl⟩
      obtain ⟨ps, hps⟩ : ∃ ps, ps = pa.2 := ⟨_, rfl⟩
      have lps : ps.length = m := by rw [hps, hm]
      rw [← hps] at t1 t2
      rw [v1, ← htw] at sa
      rw [v2, ← htw] at sb
      rw [← hm] at sa sb n1
      have rd : ∀ wx : World, Below w.heap.size w wx → wx.cell? ⟨ga, i * 2, none⟩ = some (.slice (some ⟨g1, 0, none⟩) m c1) ∧ wx.cell? ⟨ga, i * 2 + 1, none⟩ = some (.int .i64 tw) ∧ wx.cell? ⟨gb, i * 2, none⟩ = some (.slice (some ⟨g2, 0, none⟩) m c2) ∧ wx.cell? ⟨gb, i * 2 + 1, none⟩ = some (.int .i64 tw) := fun wx hx =>
        ⟨(hx.cell (p := ⟨ga, i * 2, none⟩) hga).trans (hca _ _ sa.1), (hx.cell (p := ⟨ga, i * 2 + 1, none⟩) hga).trans (hca _ _ sa.2), (hx.cell (p := ⟨gb, i * 2, none⟩) hgb).trans (hcb _ _ sb.1), (hx.cell (p := ⟨gb, i * 2 + 1, none⟩) hgb).trans (hcb _ _ sb.2)⟩
      have RD := hid rd
      have T1 := hid t1
      have T2 := hid t2
      have LPS := hid lps
      have i0' : (0 : Int) ≤ (i : Nat) := by omega
      have i1' : ((i : Nat) : Int) < (n : Nat) := by omega
      clear rd t1 t2 sa sb hpa hpb hm htw hps v1 v2 hca hcb e2 lps n2
      obtain ⟨r0, r1, r2, r3⟩ := RD.out _ BL.out
      go_wp2_with fail
      go_quiet (fail)
      go_wp2
      go_loopw [6] (fun kv wr => ∃ k : Nat, k ≤ m ∧ kv = .int .i64 k ∧ Below w.heap.size w wr) (fun k _ => m - (intOf k).toNat)
      case atStart => exact ⟨0, by omega, rfl, BL.out.trans ⟨rfl, rfl, rfl, Nat.le_refl _, fun _ _ => rfl⟩⟩
      case round =>
        clear r0 r1 r2 r3 BL
        obtain ⟨k, hkm, rfl, hbl⟩ := hrel
        have BL := hid hbl
        clear hbl
        obtain ⟨r0, r1, r2, r3⟩ := RD.out _ BL.out
        by_cases hk : k < m
        · obtain ⟨x0, x1⟩ := (T1.out.on BL.out T1.out.1).2 k (by have := LPS.out; omega)
          obtain ⟨y0, y1⟩ := (T2.out.on BL.out T2.out.1).2 k (by have := LPS.out; omega)
          obtain ⟨⟨px, py⟩, hpp⟩ : ∃ p, p = ps.getD k (0, 0) := ⟨_, rfl⟩
          rw [← hpp] at x0 x1 y0 y1
          dsimp only at x0 x1 y0 y1
          have k0' : (0 : Int) ≤ (k : Nat) := by omega
          have k1' : ((k : Nat) : Int) < (m : Nat) := by omega
          clear hpp
          go_wp2_with fail
          go_quiet (fail)
          go_wp2
          go_roundw
          case rel => exact ⟨k + 1, by omega, by go_num, BL.out.trans ⟨rfl, rfl, rfl, Nat.le_refl _, fun _ _ => rfl⟩⟩
          case measure => simp [intOf]; omega
        · have hk' : ((m : Nat) : Int) ≤ (k : Nat) := by omega
          go_wp2
          go_roundw
          case rel => exact ⟨i + 1, by omega, by go_num, BL.out⟩
          case measure => simp [intOf]; omega
    · have hk' : ((n : Nat) : Int) ≤ (i : Nat) := by omega
      go_wp2
      go_ret
      exact ⟨rfl, BL.out⟩
end Go.Proofs.YtljfiefobnncaabDoor

/- outlineref.Black. -/
namespace Go.Proofs.YtljfiefobnncaabDoor
open Go.RowKit

end Go.Proofs.YtljfiefobnncaabDoor
/- outlineref.Write. -/
namespace Go.Proofs.YtljfiefobnncaabDoor
open Go.RowKit



/-- The box of a bitmap at block B stands; below it all is as it was. -/
def Inb (B : Nat) (W H : Nat) (s : ByteArray) (w wr : World) : Prop :=
  wr.cell? ⟨B, 0, none⟩ = some (.int .i64 W) ∧ wr.cell? ⟨B, 1, none⟩ = some (.int .i64 H) ∧ wr.cell? ⟨B, 2, none⟩ = some (.string s) ∧ Below B w wr ∧ B < wr.heap.size
theorem Inb.on {B W H : Nat} {s : ByteArray} {w wr w2 : World} (h : Inb B W H s w wr) (hb : Below wr.heap.size wr w2) : Inb B W H s w w2 := by
  obtain ⟨c0, c1, c2, hn, hz⟩ := h
  exact ⟨(hb.cell (p := ⟨B, 0, none⟩) hz).trans c0, (hb.cell (p := ⟨B, 1, none⟩) hz).trans c1, (hb.cell (p := ⟨B, 2, none⟩) hz).trans c2, hn.trans (hb.mono (Nat.le_of_lt hz)), Nat.lt_of_lt_of_le hz hb.size⟩
theorem Inb.alloc {B W H : Nat} {s : ByteArray} {w wr : World} (h : Inb B W H s w wr) (o : Obj) : Inb B W H s w (wr.alloc o) :=
  h.on ((Below.refl _ _).alloc (Nat.le_refl _) _)

/-- 'string([]byte{b})'. -/
theorem one_byte (b : UInt8) (v : Int) (hv : v = (b.toNat : Int)) (wx : World) :
    Sem.run Tryd.prog (convert 44 9 (.slice (some ⟨wx.heap.size, 0, none⟩) 1 1)) (wx.alloc (.cells #[.int .u8 v] 5)) = .ok (.string ⟨#[b]⟩) (wx.alloc (.cells #[.int .u8 v] 5)) := by
  subst hv
  refine run_convert_bytes_back (P := Tryd.prog) (wx.alloc (.cells #[.int .u8 (b.toNat : Int)] 5)) 44 9 5 ⟨wx.heap.size, 0, none⟩ 1 [b] Tryd.underlying44 Tryd.underlying5 Tryd.underlying9 (fun j hj => ?_)
  match j, hj with
  | 0, _ => simp [Addr.add]

end Go.Proofs.YtljfiefobnncaabDoor
/- pick, number. -/
namespace Go.Proofs.YtljfiefobnncaabDoor
open Go.RowKit

theorem dig_toNat : ∀ n, n < 10 → (48 + n.toUInt8).toNat = 48 + n := by decide
theorem itoaL_low (n : Nat) (h : n < 10) : Pm.itoaL n = [48 + n.toUInt8] := by rw [Pm.itoaL, if_pos h]
theorem itoaL_high (n : Nat) (h : ¬ n < 10) : Pm.itoaL n = [48 + (n / 10).toUInt8, 48 + (n % 10).toUInt8] := by rw [Pm.itoaL, if_neg h]

set_option maxRecDepth 4000 in
set_option maxHeartbeats 400000 in
theorem pick_any (c : Int) (n : Nat) (c1 : -9223372036854775808 ≤ c) (c2 : c ≤ 9223372036854775807) (n1 : 1 ≤ n) (n2 : n ≤ 32) (w : World) :
    Calls Tryd.prog 12 #[.int .i64 c, .int .i64 n] w fun e w' => (∃ r : Nat, e = .returned (.int .i64 r) ∧ r < n) ∧ w' = w := by
  by_cases h : c < 0
  · have e1 : -(c + 1).tmod (n : Int) = ((((-(c + 1)) % (n : Int)).toNat : Nat) : Int) := by
      rw [← Int.neg_tmod, Int.tmod_eq_emod_of_nonneg (by omega)]
      have := Int.emod_nonneg (-(c + 1)) (show (n : Int) ≠ 0 by omega)
      omega
    have e2 : ((-(c + 1)) % (n : Int)).toNat < n := by
      have := Int.emod_nonneg (-(c + 1)) (show (n : Int) ≠ 0 by omega)
      have := Int.emod_lt_of_pos (-(c + 1)) (show (0 : Int) < n by omega)
      omega
    have E1 : Hid _ := e1
    have E2 : Hid _ := e2
    clear e1 e2
    go_enter Tryd.func12, Tryd.ntmps12
    go_wp2
    go_ret
    exact ⟨⟨_, ret_int E1.out, E2.out⟩, rfl⟩
  · have e1 : c % (n : Int) = (((c % (n : Int)).toNat : Nat) : Int) := by
      have := Int.emod_nonneg c (show (n : Int) ≠ 0 by omega)
      omega
    have e2 : (c % (n : Int)).toNat < n := by
      have := Int.emod_nonneg c (show (n : Int) ≠ 0 by omega)
      have := Int.emod_lt_of_pos c (show (0 : Int) < n by omega)
      omega
    have E1 : Hid _ := e1
    have E2 : Hid _ := e2
    clear e1 e2
    go_enter Tryd.func12, Tryd.ntmps12
    go_wp2
    go_ret
    exact ⟨⟨_, ret_int E1.out, E2.out⟩, rfl⟩

end Go.Proofs.YtljfiefobnncaabDoor
/- pick, of up to 2000 things. -/
namespace Go.Proofs.YtljfiefobnncaabDoor
open Go.RowKit

set_option maxRecDepth 4000 in
set_option maxHeartbeats 400000 in
theorem pick_big (c : Int) (n : Nat) (c1 : -9223372036854775808 ≤ c) (c2 : c ≤ 9223372036854775807) (n1 : 1 ≤ n) (n2 : n ≤ 2000) (w : World) :
    Calls Tryd.prog 12 #[.int .i64 c, .int .i64 n] w fun e w' => (∃ r : Nat, e = .returned (.int .i64 r) ∧ r < n) ∧ w' = w := by
  by_cases h : c < 0
  · have e1 : -(c + 1).tmod (n : Int) = ((((-(c + 1)) % (n : Int)).toNat : Nat) : Int) := by
      rw [← Int.neg_tmod, Int.tmod_eq_emod_of_nonneg (by omega)]
      have := Int.emod_nonneg (-(c + 1)) (show (n : Int) ≠ 0 by omega)
      omega
    have e2 : ((-(c + 1)) % (n : Int)).toNat < n := by
      have := Int.emod_nonneg (-(c + 1)) (show (n : Int) ≠ 0 by omega)
      have := Int.emod_lt_of_pos (-(c + 1)) (show (0 : Int) < n by omega)
      omega
    have E1 : Hid _ := e1
    have E2 : Hid _ := e2
    clear e1 e2
    go_enter Tryd.func12, Tryd.ntmps12
    go_wp2
    go_ret
    exact ⟨⟨_, ret_int E1.out, E2.out⟩, rfl⟩
  · have e1 : c % (n : Int) = (((c % (n : Int)).toNat : Nat) : Int) := by
      have := Int.emod_nonneg c (show (n : Int) ≠ 0 by omega)
      omega
    have e2 : (c % (n : Int)).toNat < n := by
      have := Int.emod_nonneg c (show (n : Int) ≠ 0 by omega)
      have := Int.emod_lt_of_pos c (show (0 : Int) < n by omega)
      omega
    have E1 : Hid _ := e1
    have E2 : Hid _ := e2
    clear e1 e2
    go_enter Tryd.func12, Tryd.ntmps12
    go_wp2
    go_ret
    exact ⟨⟨_, ret_int E1.out, E2.out⟩, rfl⟩
end Go.Proofs.YtljfiefobnncaabDoor
