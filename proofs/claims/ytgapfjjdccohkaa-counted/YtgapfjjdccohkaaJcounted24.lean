import Derived.Test.YtgapfjjdccohkaaJcounted05
import Derived.Test.YtgapfjjdccohkaaJcounted10
import Derived.Test.YtgapfjjdccohkaaJcounted23

/- outlinekeep: spread: what holds in its loops. -/
namespace Go.Proofs.Ytgapfjjdccohkaa
open Go.RowKit

namespace Qm
theorem cellP_inj {W i k : Nat} (h : cellP W i = cellP W k) : i = k := by
  rcases Nat.lt_trichotomy i k with h1 | h1 | h1
  · have := cellP_bef (W := W) h1; rw [h] at this; simp only [Bef] at this; omega
  · exact h1
  · have := cellP_bef (W := W) h1; rw [h] at this; simp only [Bef] at this; omega
/-- The neighbour number d. -/
def nbP (p : Int × Int) (d : Nat) : Int × Int := (p.1 + ((d % 3 : Nat) : Int) - 1, p.2 + ((d / 3 : Nat) : Int) - 1)
section
variable (bl : Int → Int → Bool) (j : Bool) (W H : Nat)
/-- What is marked is whole pieces. -/
def Cl (M : Nat → Int) : Prop := ∀ i k, i < (W + 2) * (H + 2) → k < (W + 2) * (H + 2) → M i ≠ 0 → Adj bl j (cellP W i) (cellP W k) → M k ≠ 0
structure SP (M M' : Nat → Int) (fr : Nat) (n : Int) (td : List Nat) : Prop where
  on : ∀ k, k < (W + 2) * (H + 2) → M' k = M k ∨ (M k = 0 ∧ M' k = n ∧ Cn bl j W H (cellP W fr) (cellP W k))
  tdi : ∀ k ∈ td, k < (W + 2) * (H + 2) ∧ M k = 0 ∧ M' k = n
  frm : M' fr = n
  don : ∀ k, k < (W + 2) * (H + 2) → M k = 0 → M' k = n → k ∉ td → ∀ i, i < (W + 2) * (H + 2) → Adj bl j (cellP W k) (cellP W i) → M' i ≠ 0
structure SQ (M M' : Nat → Int) (fr : Nat) (n : Int) (td : List Nat) (at' d : Nat) : Prop where
  on : ∀ k, k < (W + 2) * (H + 2) → M' k = M k ∨ (M k = 0 ∧ M' k = n ∧ Cn bl j W H (cellP W fr) (cellP W k))
  tdi : ∀ k ∈ td, k < (W + 2) * (H + 2) ∧ M k = 0 ∧ M' k = n
  frm : M' fr = n
  don : ∀ k, k < (W + 2) * (H + 2) → M k = 0 → M' k = n → k ∉ td → k ≠ at' → ∀ i, i < (W + 2) * (H + 2) → Adj bl j (cellP W k) (cellP W i) → M' i ≠ 0
  ati : at' < (W + 2) * (H + 2) ∧ M at' = 0 ∧ M' at' = n
  atd : ∀ i, i < (W + 2) * (H + 2) → Adj bl j (cellP W at') (cellP W i) → ∀ e, e < d → cellP W i = nbP (cellP W at') e → M' i ≠ 0
end
section
variable {bl : Int → Int → Bool} {j : Bool} {W H : Nat} {M M' : Nat → Int} {fr : Nat} {n : Int} {td : List Nat} {at' d : Nat}
def upM (M : Nat → Int) (k : Nat) (x : Int) : Nat → Int := fun i => if i = k then x else M i
theorem upM_same (M : Nat → Int) (k : Nat) (x : Int) : upM M k x k = x := if_pos rfl
theorem upM_other {M : Nat → Int} {k i : Nat} {x : Int} (h : i ≠ k) : upM M k x i = M i := if_neg h
theorem SP.start (hfr : fr < (W + 2) * (H + 2)) (hf : M fr = 0) (hn : 0 < n) : SP bl j W H M (upM M fr n) fr n [fr] := by
  refine ⟨fun k hk => ?_, fun k hk => ?_, upM_same _ _ _, fun k hk h0 h1 hk2 => ?_⟩
  · by_cases e : k = fr
    · subst e; exact .inr ⟨hf, upM_same _ _ _, .refl⟩
    · exact .inl (upM_other e)
  · rw [List.mem_singleton] at hk
    subst hk; exact ⟨hfr, hf, upM_same _ _ _⟩
  · rw [List.mem_singleton] at hk2
    rw [upM_other hk2] at h1
    omega
theorem SP.pop (h : SP bl j W H M M' fr n (td ++ [at'])) : SQ bl j W H M M' fr n td at' 0 :=
  ⟨h.on, fun k hk => h.tdi k (List.mem_append_left _ hk), h.frm, fun k hk h0 h1 h2 h3 => h.don k hk h0 h1 (fun hm => by
    rcases List.mem_append.1 hm with h4 | h4
    · exact h2 h4
    · exact h3 (List.mem_singleton.1 h4)), h.tdi at' (List.mem_append_right _ (List.mem_singleton.2 rfl)), fun i _ _ e he => by omega⟩
theorem SQ.skip (h : SQ bl j W H M M' fr n td at' d) (hn : ∀ i, i < (W + 2) * (H + 2) → Adj bl j (cellP W at') (cellP W i) → cellP W i = nbP (cellP W at') d → M' i ≠ 0) : SQ bl j W H M M' fr n td at' (d + 1) :=
  ⟨h.on, h.tdi, h.frm, h.don, h.ati, fun i hi ad e he ei => by
    rcases Nat.lt_or_ge e d with h1 | h1
    · exact h.atd i hi ad e h1 ei
    · obtain rfl : e = d := by omega
      exact hn i hi ad ei⟩
theorem SQ.mark (h : SQ bl j W H M M' fr n td at' d) (hn : 0 < n) {k : Nat} (hk : k < (W + 2) * (H + 2)) (hk0 : M' k = 0) (ad : Adj bl j (cellP W at') (cellP W k)) (ek : cellP W k = nbP (cellP W at') d) : SQ bl j W H M (upM M' k n) fr n (td ++ [k]) at' (d + 1) := by
  have mk : M k = 0 := by rcases h.on k hk with e | ⟨e, _⟩ <;> omega
  have mo : ∀ i, M' i ≠ 0 → upM M' k n i ≠ 0 := fun i hi => by
    by_cases e : i = k
    · subst e; rw [upM_same]; omega
    · rw [upM_other e]; exact hi
  have nk : ∀ i, M' i = n → i ≠ k := fun i hi e => by subst e; omega
  have cn : Cn bl j W H (cellP W fr) (cellP W at') := by
    rcases h.on at' h.ati.1 with e | ⟨_, _, e⟩
    · have := h.ati; omega
    · exact e
  refine ⟨fun i hi => ?_, fun i hi => ?_, ?_, fun i hi h0 h1 h2 h3 => ?_, ⟨h.ati.1, h.ati.2.1, by rw [upM_other (nk _ h.ati.2.2)]; exact h.ati.2.2⟩, fun i hi ad' e he ei => ?_⟩
  · by_cases e : i = k
    · subst e; exact .inr ⟨mk, upM_same _ _ _, .step _ _ cn ad (cellP_in hk)⟩
    · rw [upM_other e]; exact h.on i hi
  · rcases List.mem_append.1 hi with h1 | h1
    · have := h.tdi i h1
      exact ⟨this.1, this.2.1, by rw [upM_other (nk _ this.2.2)]; exact this.2.2⟩
    · rw [List.mem_singleton.1 h1]; exact ⟨hk, mk, upM_same _ _ _⟩
  · rw [upM_other (nk _ h.frm)]; exact h.frm
  · have e : i ≠ k := fun e => h2 (by rw [e]; exact List.mem_append_right _ (List.mem_singleton.2 rfl))
    rw [upM_other e] at h1
    exact fun q hq aq => mo q (h.don i hi h0 h1 (fun hm => h2 (List.mem_append_left _ hm)) h3 q hq aq)
  · rcases Nat.lt_or_ge e d with h1 | h1
    · exact mo i (h.atd i hi ad' e h1 ei)
    · obtain rfl : e = d := by omega
      rw [cellP_inj (ei.trans ek.symm), upM_same]; omega
theorem SQ.finish (h : SQ bl j W H M M' fr n td at' 9) : SP bl j W H M M' fr n td := by
  refine ⟨h.on, h.tdi, h.frm, fun k hk h0 h1 h2 i hi ad => ?_⟩
  by_cases e : k = at'
  · subst e
    have a2 := ad.2
    obtain ⟨dx, hdx⟩ : ∃ dx : Nat, (cellP W i).1 = (cellP W k).1 + dx - 1 ∧ dx < 3 := ⟨((cellP W i).1 - (cellP W k).1 + 1).toNat, by omega⟩
    obtain ⟨dy, hdy⟩ : ∃ dy : Nat, (cellP W i).2 = (cellP W k).2 + dy - 1 ∧ dy < 3 := ⟨((cellP W i).2 - (cellP W k).2 + 1).toNat, by omega⟩
    refine h.atd i hi ad (dy * 3 + dx) (by omega) ?_
    unfold nbP
    rw [show (dy * 3 + dx) % 3 = dx from by omega, show (dy * 3 + dx) / 3 = dy from by omega]
    exact Prod.ext hdx.1 hdy.1
  · exact h.don k hk h0 h1 h2 e i hi ad
theorem SP.out (h : SP bl j W H M M' fr n []) (hfr : fr < (W + 2) * (H + 2)) (hf : M fr = 0) (hc : Cl bl j W H M) : ∀ k, k < (W + 2) * (H + 2) → (Cn bl j W H (cellP W fr) (cellP W k) → M k = 0 ∧ M' k = n) ∧ (¬ Cn bl j W H (cellP W fr) (cellP W k) → M' k = M k) := by
  have key : ∀ q, Cn bl j W H (cellP W fr) q → ∀ i, i < (W + 2) * (H + 2) → cellP W i = q → M i = 0 ∧ M' i = n := by
    intro q hq
    induction hq with
    | refl => intro i hi e; rw [cellP_inj e]; exact ⟨hf, h.frm⟩
    | step a b ha hab hg ih =>
      intro i hi e
      obtain ⟨r, hr, er⟩ := cellP_of (ha.in (cellP_in hfr))
      obtain ⟨r0, r1⟩ := ih r hr er
      have ad : Adj bl j (cellP W r) (cellP W i) := by rw [er, e]; exact hab
      have nz := h.don r hr r0 r1 (by simp) i hi ad
      rcases h.on i hi with e1 | ⟨e1, e2, _⟩
      · exfalso
        rw [e1] at nz
        exact hc i r hi hr nz ad.symm r0
      · exact ⟨e1, e2⟩
  intro k hk
  refine ⟨fun hq => key _ hq k hk rfl, fun hq => ?_⟩
  rcases h.on k hk with e | ⟨_, _, e⟩
  · exact e
  · exact absurd e hq
end
section
variable {bl : Int → Int → Bool} {j : Bool} {W H : Nat} {M M' : Nat → Int} {fr : Nat} {n : Int} {td : List Nat} {at' d : Nat}
theorem SQ.cn (h : SQ bl j W H M M' fr n td at' d) (hn : 0 < n) : Cn bl j W H (cellP W fr) (cellP W at') := by
  rcases h.on at' h.ati.1 with e | ⟨_, _, e⟩
  · have := h.ati; omega
  · exact e
theorem SQ.beyond (h : SQ bl j W H M M' fr n td at' d) (hn : ¬ InG W H (nbP (cellP W at') d)) : SQ bl j W H M M' fr n td at' (d + 1) :=
  h.skip fun _ hi _ e => absurd (e ▸ cellP_in hi) hn
theorem nb_even {p : Int × Int} {d : Nat} (hd : d < 9) (he : d % 2 = 0) : ((nbP p d).1 = p.1 ∧ (nbP p d).2 = p.2) ∨ ((nbP p d).1 ≠ p.1 ∧ (nbP p d).2 ≠ p.2) := by
  have : d = 0 ∨ d = 2 ∨ d = 4 ∨ d = 6 ∨ d = 8 := by omega
  rcases this with rfl | rfl | rfl | rfl | rfl <;> simp only [nbP] <;> omega
theorem SQ.even (h : SQ bl j W H M M' fr n td at' d) (hn : 0 < n) (hd : d < 9) (he : d % 2 = 0) (hj : ¬ bl (cellP W fr).1 (cellP W fr).2 = j) : SQ bl j W H M M' fr n td at' (d + 1) :=
  h.skip fun i hi ad e => by
    exfalso
    have c := (h.cn hn).colour
    rcases nb_even (p := cellP W at') hd he with ⟨h1, h2⟩ | ⟨h1, h2⟩
    · rw [← e] at h1 h2
      rcases ad.2 with h3 | h3 | ⟨_, h3⟩ <;> omega
    · rw [← e] at h1 h2
      rcases ad.2 with h3 | h3 | ⟨h3, _⟩
      · omega
      · omega
      · exact hj (c.trans h3)
theorem SQ.taken (h : SQ bl j W H M M' fr n td at' d) {k : Nat} (ek : cellP W k = nbP (cellP W at') d) (hk : M' k ≠ 0) : SQ bl j W H M M' fr n td at' (d + 1) :=
  h.skip fun i _ _ e => by rw [cellP_inj (e.trans ek.symm)]; exact hk
theorem SQ.other (h : SQ bl j W H M M' fr n td at' d) (hc : bl (nbP (cellP W at') d).1 (nbP (cellP W at') d).2 ≠ bl (cellP W at').1 (cellP W at').2) : SQ bl j W H M M' fr n td at' (d + 1) :=
  h.skip fun i _ ad e => absurd (by rw [← e]; exact ad.1.symm) hc
theorem nb_near {p : Int × Int} {d : Nat} (hd : d < 9) (h4 : d ≠ 4) : ((nbP p d).1 = p.1 ∧ ((nbP p d).2 = p.2 + 1 ∨ (nbP p d).2 = p.2 - 1)) ∨ ((nbP p d).2 = p.2 ∧ ((nbP p d).1 = p.1 + 1 ∨ (nbP p d).1 = p.1 - 1)) ∨ (d % 2 = 0 ∧ ((nbP p d).1 = p.1 + 1 ∨ (nbP p d).1 = p.1 - 1) ∧ ((nbP p d).2 = p.2 + 1 ∨ (nbP p d).2 = p.2 - 1)) := by
  have : d = 0 ∨ d = 1 ∨ d = 2 ∨ d = 3 ∨ d = 5 ∨ d = 6 ∨ d = 7 ∨ d = 8 := by omega
  rcases this with rfl | rfl | rfl | rfl | rfl | rfl | rfl | rfl <;> simp only [nbP] <;> first | omega | (right; right; exact ⟨trivial, by omega, by omega⟩) | (right; right; exact ⟨rfl, by omega, by omega⟩)
theorem SQ.take (h : SQ bl j W H M M' fr n td at' d) (hn : 0 < n) (hd : d < 9) {k : Nat} (hk : k < (W + 2) * (H + 2)) (hk0 : M' k = 0) (ek : cellP W k = nbP (cellP W at') d) (hc : bl (nbP (cellP W at') d).1 (nbP (cellP W at') d).2 = bl (cellP W at').1 (cellP W at').2) (hj : d % 2 = 0 → bl (cellP W fr).1 (cellP W fr).2 = j) : SQ bl j W H M (upM M' k n) fr n (td ++ [k]) at' (d + 1) := by
  have c := (h.cn hn).colour
  refine h.mark hn hk hk0 ⟨by rw [ek]; exact hc.symm, ?_⟩ ek
  have h4 : d ≠ 4 := fun e => by
    subst e
    have e2 : cellP W k = cellP W at' := by rw [ek]; unfold nbP; exact Prod.ext (by simp only; omega) (by simp only; omega)
    rw [cellP_inj e2] at hk0
    have := h.ati.2.2
    omega
  rw [ek]
  rcases nb_near (p := cellP W at') hd h4 with h1 | h1 | ⟨h1, h2⟩
  · exact .inl h1
  · exact .inr (.inl h1)
  · exact .inr (.inr ⟨c.symm.trans (hj h1), h2⟩)
end
/-- How many are left. -/
theorem cntP_less {P Q : Nat → Prop} {k : Nat} (hk : P k) (h : ∀ i, Q i ↔ (P i ∧ i ≠ k)) : ∀ n, (n ≤ k → cntP Q n = cntP P n) ∧ (k < n → cntP Q n + 1 = cntP P n)
  | 0 => ⟨fun _ => rfl, fun h => by omega⟩
  | n + 1 => by
    have ih := cntP_less hk h n
    refine ⟨fun h1 => ?_, fun h1 => ?_⟩
    · by_cases hp : P n
      · rw [cntP_yes hp, cntP_yes ((h n).2 ⟨hp, by omega⟩), ih.1 (by omega)]
      · rw [cntP_no hp, cntP_no (fun hq => hp ((h n).1 hq).1), ih.1 (by omega)]
    · rcases Nat.lt_or_ge k n with h2 | h2
      · by_cases hp : P n
        · rw [cntP_yes hp, cntP_yes ((h n).2 ⟨hp, by omega⟩), ← ih.2 h2]
        · rw [cntP_no hp, cntP_no (fun hq => hp ((h n).1 hq).1), ih.2 h2]
      · obtain rfl : n = k := by omega
        rw [cntP_yes hk, cntP_no (fun hq => ((h n).1 hq).2 rfl), ih.1 (Nat.le_refl _)]
end Qm

/-- The marks in memory. -/
def MkAt (gm T : Nat) (M : Nat → Int) (w : World) : Prop := gm < w.heap.size ∧ (∀ k, k < T → w.cell? ⟨gm, k, none⟩ = some (.int .i64 (M k))) ∧ ∀ k, w.frozen? ⟨gm, k, none⟩ = false
theorem MkAt.on {gm T : Nat} {M : Nat → Int} {w w' : World} (h : MkAt gm T M w) (hb : Below w.heap.size w w') : MkAt gm T M w' :=
  ⟨Nat.lt_of_lt_of_le h.1 hb.size, fun k hk => (hb.cell (p := ⟨gm, k, none⟩) h.1).trans (h.2.1 k hk), fun k => (hb.frozen (p := ⟨gm, k, none⟩) h.1).trans (h.2.2 k)⟩
theorem MkAt.gb {gm T : Nat} {M : Nat → Int} {w w' : World} {r : Option Nat} (h : MkAt gm T M w) (hb : w.grownBy w' r) (hr : r ≠ some gm) : MkAt gm T M w' := by
  have e := hb.block gm h.1 (Ne.symm hr)
  refine ⟨Nat.lt_of_lt_of_le h.1 hb.size, fun k hk => (World.cell?_of_block (a := ⟨gm, k, none⟩) e).trans (h.2.1 k hk), fun k => ?_⟩
  have := h.2.2 k
  unfold World.frozen? at this ⊢
  rw [e]; exact this
theorem MkAt.set {gm T : Nat} {M : Nat → Int} {w : World} (h : MkAt gm T M w) {k : Nat} (hk : k < T) (x : Int) : MkAt gm T (Qm.upM M k x) (w.setCell ⟨gm, k, none⟩ (.int .i64 x)) := by
  refine ⟨by rw [World.size_setCell]; exact h.1, fun i hi => ?_, fun i => by simpa using h.2.2 i⟩
  by_cases e : i = k
  · subst e; rw [Qm.upM_same]; exact World.cell?_setCell_same _ _ _ (h.2.1 i hi)
  · rw [Qm.upM_other e]
    exact (World.cell?_setCell_other _ _ _ _ (by intro e2; injection e2 with _ e2 _; omega)).trans (h.2.1 i hi)
noncomputable def zc (gm T : Nat) (w : World) : Nat := Qm.cntP (fun k => w.cell? ⟨gm, k, none⟩ = some (.int .i64 0)) T
theorem zc_of {gm T : Nat} {M : Nat → Int} {w : World} (h : MkAt gm T M w) : zc gm T w = Qm.cntP (fun k => M k = 0) T := by
  have key : ∀ n, n ≤ T → Qm.cntP (fun k => w.cell? ⟨gm, k, none⟩ = some (.int .i64 0)) n = Qm.cntP (fun k => M k = 0) n := by
    intro n
    induction n with
    | zero => intro _; rfl
    | succ n ih =>
      intro hn
      have c := h.2.1 n (by omega)
      by_cases e : M n = 0
      · rw [Qm.cntP_yes (P := fun k => M k = 0) e, Qm.cntP_yes (P := fun k => w.cell? ⟨gm, k, none⟩ = some (.int .i64 0)) (by rw [c, e]), ih (by omega)]
      · rw [Qm.cntP_no (P := fun k => M k = 0) e, Qm.cntP_no (P := fun k => w.cell? ⟨gm, k, none⟩ = some (.int .i64 0)) (by rw [c]; intro e2; injection e2 with e2; injection e2 with _ e2; exact e e2), ih (by omega)]
  exact key T (Nat.le_refl _)
theorem zc_set {T : Nat} {M : Nat → Int} {k : Nat} (hk : k < T) (h0 : M k = 0) {x : Int} (hx : x ≠ 0) : Qm.cntP (fun i => Qm.upM M k x i = 0) T + 1 = Qm.cntP (fun i => M i = 0) T :=
  (Qm.cntP_less (P := fun i => M i = 0) (Q := fun i => Qm.upM M k x i = 0) h0 (fun i => by
    by_cases e : i = k
    · subst e; rw [Qm.upM_same]; exact ⟨fun h => absurd h hx, fun h => absurd rfl h.2⟩
    · rw [Qm.upM_other e]; exact ⟨fun h => ⟨h, e⟩, fun h => h.1⟩) T).2 hk
def slLen : Value → Nat
  | .slice _ n _ => n
  | _ => 0
/-- One less. -/
theorem own_pop {w : World} {b : Nat} {t : TypeId} {g cap n : Nat} {l : List Nat} {a : Nat} (h : w.ownsRow b t 1 (.slice (some ⟨g, 0, none⟩) (n + 1) cap) (n + 1) (numV (l ++ [a]))) : w.ownsRow b t 1 (.slice (some ⟨g, 0, none⟩) n cap) n (numV l) := by
  have hl := h.1
  rw [numV_len, List.length_append, List.length_singleton] at hl
  refine ⟨by rw [numV_len]; omega, ?_⟩
  rcases h.2 with ⟨h1, _⟩ | ⟨g', cap', cur, h1, h2, h3, h4, h5, h6, h7⟩
  · cases h1
  · injection h1 with h1 _ hc; injection h1 with h1; injection h1 with h1 _ _
    subst h1; subst hc
    refine .inr ⟨g, cap, cur, rfl, h2, h3, by omega, h5, h6, ?_⟩
    have := congrArg (List.take (n * 1)) h7
    rw [List.take_take, numV_snoc, List.take_append_of_le_length (by rw [numV_len]; omega), List.take_of_length_le (l := numV l) (by rw [numV_len]; omega)] at this
    rw [← this]
    congr 1
    omega
theorem own_one (w : World) (b : Nat) (a : Nat) (t : TypeId) (hb : b ≤ w.heap.size) : (w.alloc (.cells #[.int .i64 (a : Int)] t)).ownsRow b t 1 (.slice (some ⟨w.heap.size, 0, none⟩) 1 1) 1 (numV [a]) :=
  ⟨rfl, .inr ⟨w.heap.size, 1, #[.int .i64 (a : Int)], rfl, hb, heap_alloc_new w _, Nat.le_refl _, by unfold maxLen; omega, rfl, rfl⟩⟩
end Go.Proofs.Ytgapfjjdccohkaa

/- outlinekeep: spread. -/
namespace Go.Proofs.Ytgapfjjdccohkaa
open Go.RowKit
attribute [local go_sem ↓] Go.wp_at_zero Go.wp_at_succ

/-- In the region that asks for two pixels. -/
def SB (B gm k W H : Nat) (s : ByteArray) (z : Int) (wr w : World) : Prop :=
  w.cell? ⟨B, 0, none⟩ = some (.int .i64 W) ∧ w.cell? ⟨B, 1, none⟩ = some (.int .i64 H) ∧ w.cell? ⟨B, 2, none⟩ = some (.string s) ∧ w.cell? ⟨gm, k, none⟩ = some (.int .i64 z) ∧ Below wr.heap.size wr w ∧ B < w.heap.size ∧ gm < w.heap.size
theorem SB.on {B gm k W H : Nat} {s : ByteArray} {z : Int} {wr w w' : World} (h : SB B gm k W H s z wr w) (hb : Below w.heap.size w w') : SB B gm k W H s z wr w' := by
  obtain ⟨h1, h2, h3, h4, h5, h6, h7⟩ := h
  exact ⟨(hb.cell (p := ⟨B, 0, none⟩) h6).trans h1, (hb.cell (p := ⟨B, 1, none⟩) h6).trans h2, (hb.cell (p := ⟨B, 2, none⟩) h6).trans h3, (hb.cell (p := ⟨gm, k, none⟩) h7).trans h4, h5.trans (hb.mono h5.size), Nat.lt_of_lt_of_le h6 hb.size, Nat.lt_of_lt_of_le h7 hb.size⟩
theorem black_sb {B gm k W H : Nat} {s : ByteArray} {z : Int} {wr w : World} (h : SB B gm k W H s z wr w) (hw2 : W ≤ 32) (hh2 : H ≤ 32) (hl : s.size = W * H) (x y : Int) :
    Calls Try.prog 37 #[.agg #[.int .i64 W, .int .i64 H, .string s], .int .i64 x, .int .i64 y] w fun e w' => e = .returned (.bool (Pm.blackB W H s.data.toList x y)) ∧ SB B gm k W H s z wr w' :=
  (keepBlack_any W H s x y w hw2 hh2 hl).mono fun _ _ ⟨h1, h2⟩ => ⟨h1, h.on (by rw [h2]; exact (Below.refl _ _).alloc (Nat.le_refl _) _)⟩
theorem bmp_new (w : World) (W H : Nat) (s : ByteArray) : Bmp w.heap.size W H s (w.alloc (.cells #[.int .i64 W, .int .i64 H, .string s] 23)) := ⟨by simp, by simp, by simp, by simp⟩
theorem Bmp.gb {b W H : Nat} {s : ByteArray} {w w' : World} {r : Option Nat} (h : Bmp b W H s w) (hb : w.grownBy w' r) (hne : r ≠ some b) : Bmp b W H s w' := by
  have e := hb.block b h.1 (Ne.symm hne)
  have C : ∀ j, w'.cell? ⟨b, j, none⟩ = w.cell? ⟨b, j, none⟩ := fun j => World.cell?_of_block (a := ⟨b, j, none⟩) e
  exact ⟨Nat.lt_of_lt_of_le h.1 hb.size, (C _).trans h.2.1, (C _).trans h.2.2.1, (C _).trans h.2.2.2⟩

theorem Qm.cellP_ix {W k : Nat} {u v : Int} (h : Qm.cellP W k = (u, v)) : (v + 1) * ((W : Int) + 2) + u + 1 = (k : Nat) := by
  simp only [Qm.cellP, Prod.mk.injEq] at h
  obtain ⟨rfl, rfl⟩ := h
  have h1 := congrArg (fun n : Nat => (n : Int)) (Nat.div_add_mod k (W + 2))
  simp only [Int.natCast_add, Int.natCast_mul] at h1
  rw [Int.mul_comm] at h1
  rw [show ((k / (W + 2) : Nat) : Int) - 1 + 1 = ((k / (W + 2) : Nat) : Int) by omega]
  generalize ((k / (W + 2) : Nat) : Int) = a at *
  generalize ((k % (W + 2) : Nat) : Int) = b at *
  have : ((2 : Nat) : Int) = 2 := rfl
  rw [this] at h1
  omega

set_option maxRecDepth 4000 in
set_option maxHeartbeats 4000000 in
theorem spread_any (W H : Nat) (s : ByteArray) (gm capm fr n : Nat) (near j : Bool) (M : Nat → Int) (w : World) (W1 : 1 ≤ W) (W2 : W ≤ 32) (H1 : 1 ≤ H) (H2 : H ≤ 32) (hl : s.size = W * H) (hM : MkAt gm ((W + 2) * (H + 2)) M w) (hfr : fr < (W + 2) * (H + 2)) (hf : M fr = 0) (hn : 0 < n) (hn2 : n ≤ 5000) (hc : Qm.Cl (Pm.blackB W H s.data.toList) j W H M)
    (hnear : near = true ↔ Pm.blackB W H s.data.toList (Qm.cellP W fr).1 (Qm.cellP W fr).2 = j) :
    Calls Try.prog 38 #[.agg #[.int .i64 W, .int .i64 H, .string s], .slice (some ⟨gm, 0, none⟩) ((W + 2) * (H + 2)) capm, .int .i64 fr, .int .i64 n, .bool near] w fun e w' => e = .returned (.tuple #[]) ∧ ∃ M', MkAt gm ((W + 2) * (H + 2)) M' w' ∧ (∀ k, k < (W + 2) * (H + 2) → (Qm.Cn (Pm.blackB W H s.data.toList) j W H (Qm.cellP W fr) (Qm.cellP W k) → M k = 0 ∧ M' k = (n : Int)) ∧ (¬ Qm.Cn (Pm.blackB W H s.data.toList) j W H (Qm.cellP W fr) (Qm.cellP W k) → M' k = M k)) ∧ w.grownBy w' (some gm) := by
  obtain ⟨ii, hii, hi0, hi1, hi2⟩ := info_parts infoInt
  have HL := hid hl
  have HC := hid hc
  have HM := hid hM
  have hgm := hM.1
  have NEAR := hid hnear
  have BLK := hid (fun (B gm k : Nat) (z : Int) (wr w : World) (h : SB B gm k W H s z wr w) (x y : Int) => black_sb h W2 H2 hl x y)
  obtain ⟨bl, hbl⟩ : ∃ bl, bl = Pm.blackB W H s.data.toList := ⟨_, rfl⟩
  rw [← hbl] at HC NEAR BLK ⊢
  obtain ⟨T, hT⟩ : ∃ T, T = (W + 2) * (H + 2) := ⟨_, rfl⟩
  have TB : T ≤ 1156 := by rw [hT]; exact Nat.mul_le_mul (show W + 2 ≤ 34 by omega) (show H + 2 ≤ 34 by omega)
  have START := hid (Qm.SP.start (bl := bl) (j := j) (M := M) (n := (n : Int)) hfr hf (by omega))
  have OUT := hid (show ∀ M', Qm.SP bl j W H M M' fr n [] → ∀ k, k < T → (Qm.Cn bl j W H (Qm.cellP W fr) (Qm.cellP W k) → M k = 0 ∧ M' k = (n : Int)) ∧ (¬ Qm.Cn bl j W H (Qm.cellP W fr) (Qm.cellP W k) → M' k = M k) from fun M' h k hk => h.out hfr hf HC.out k (by rw [← hT]; exact hk))
  have MK1 := hid (hM.set (k := fr) hfr (n : Int))
  have CIN := hid (show ∀ i, i < T → Qm.InG W H (Qm.cellP W i) from fun i hi => Qm.cellP_in (by rw [← hT]; exact hi))
  have c0 := hM.2.1 fr hfr
  have f0 := hM.2.2 fr
  rw [← hT] at hfr MK1
  simp only [← hT]
  have HT := hid hT
  clear hM hl hc hnear hbl hT hf
  obtain ⟨z0, hz0⟩ : ∃ z0, z0 = M fr := ⟨_, rfl⟩
  rw [← hz0] at c0
  have e0 : (0 : Int) ≤ (fr : Nat) := by omega
  have e1 : ((fr : Nat) : Int) < (T : Nat) := by omega
  clear hz0
  go_enter Try.func38, Try.ntmps38
  obtain ⟨Y, hY⟩ : ∃ Y, Y = (w.setCell ⟨gm, fr, none⟩ (.int .i64 (n : Nat))).alloc (.cells #[.int .i64 W, .int .i64 H, .string s] 23) := ⟨_, rfl⟩
  have YZ : Y.heap.size = w.heap.size + 1 := by rw [hY]; simp
  have YG := hid (show w.grownBy Y (some gm) by rw [hY]; exact gb_trans (set_grown (Below.refl _ _) ⟨gm, fr, none⟩) (grown_of_below ((Below.refl _ _).alloc (Nat.le_refl _) _) _))
  have YM := hid (show MkAt gm T (Qm.upM M fr n) Y by rw [hY]; exact MK1.out.on ((Below.refl _ _).alloc (Nat.le_refl _) _))
  have YB := hid (show Bmp w.heap.size W H s Y by
    rw [hY]
    have h := bmp_new (w.setCell ⟨gm, fr, none⟩ (.int .i64 (n : Nat))) W H s
    rwa [World.size_setCell] at h)
  have O0 := hid (show (Y.alloc (.cells #[.int .i64 (fr : Int)] 3)).ownsRow (w.heap.size + 1) 3 1 (.slice (some ⟨w.heap.size + 1, 0, none⟩) 1 1) 1 (numV [fr]) by
    have := own_one Y (w.heap.size + 1) fr 3 (by omega)
    rwa [YZ] at this)
  have AY := hid (show Below Y.heap.size Y (Y.alloc (.cells #[.int .i64 (fr : Int)] 3)) from (Below.refl _ _).alloc (Nat.le_refl _) _)
  go_wp2_with fail
  rw [← hY]
  clear hY c0 f0
  go_loopw [11] (fun tv wr => ∃ (M' : Nat → Int) (td : List Nat) (g cap : Nat), tv = .slice (some ⟨g, 0, none⟩) td.length cap ∧ Hid (wr.ownsRow (w.heap.size + 1) 3 1 (.slice (some ⟨g, 0, none⟩) td.length cap) td.length (numV td)) ∧ Hid (Qm.SP bl j W H M M' fr n td) ∧ Hid (MkAt gm T M' wr) ∧ Hid (Bmp w.heap.size W H s wr) ∧ Hid (w.grownBy wr (some gm)) ∧ 2 * zc gm T wr + td.length ≤ 2313) (fun tv wr => 2 * zc gm T wr + slLen tv)
  case atStart => exact ⟨_, [fr], w.heap.size + 1, 1, rfl, O0, START, YM.out.on AY.out, YB.out.on AY.out YB.out.1, gb_below YG.out AY.out YG.out.size, by have : zc gm T (Y.alloc (.cells #[.int .i64 (fr : Int)] 3)) ≤ T := Qm.cntP_le _ T; simp only [List.length_singleton]; omega⟩
  case round =>
    clear O0 START YM YB YG AY YZ
    clear Y
    obtain ⟨M', td, g, cap, rfl, hO, hSP, hMk, hBm, hG, htd⟩ := hrel
    obtain ⟨wo, rfl⟩ : ∃ wo, wo = wr := ⟨_, rfl⟩
    rcases List.eq_nil_or_concat td with htd0 | ⟨t0, a, htd0⟩
    · subst htd0
      have FIN := hid (OUT.out M' hSP.out)
      go_wp2
      refine bodyPost_end (v := .tuple #[]) (by simp [results, Try.results38, go_sem]) rfl ?_
      exact ⟨rfl, M', hMk.out, FIN.out, hG.out⟩
    · subst htd0
      have elen : (t0.concat a).length = t0.length + 1 := by simp
      have ecat : t0.concat a = t0 ++ [a] := by simp
      rw [ecat] at elen hO hSP htd ⊢
      rw [elen] at hO htd ⊢
      obtain ⟨l0, hl0⟩ : ∃ l0, l0 = t0.length := ⟨_, rfl⟩
      rw [← hl0] at hO htd ⊢
      have HL0 := hid hl0
      have NU := (own_nums hO.out).1
      have ca := NU.2 l0 (by rw [List.length_append, ← hl0]; simp)
      rw [Qm.getD_app_r _ _ _ _ (by omega), ← hl0, Nat.sub_self, List.getD_cons_zero] at ca
      have hgz := NU.1
      have OP := hid (own_pop hO.out)
      have hcap : l0 + 1 ≤ cap := by
        obtain ⟨_, c', e, h⟩ := own_cap hO.out
        injection e with _ _ e; omega
      have SQ0 := hid hSP.out.pop
      have aT : a < T := by rw [HT.out]; exact SQ0.out.ati.1
      obtain ⟨xm, hxm⟩ : ∃ xm, xm = a % (W + 2) := ⟨_, rfl⟩
      obtain ⟨ym, hym⟩ : ∃ ym, ym = a / (W + 2) := ⟨_, rfl⟩
      have cx : (a : Int) % ((W : Int) + 2) = (xm : Nat) := by rw [hxm]; simp
      have cy : (a : Int) / ((W : Int) + 2) = (ym : Nat) := by rw [hym]; simp
      have CA := hid (show Qm.cellP W a = ((xm : Int) - 1, (ym : Int) - 1) by rw [hxm, hym]; rfl)
      have ga := CIN.out a aT
      rw [CA.out] at ga
      simp only [Qm.InG] at ga
      have w0 : ¬ (W : Int) + 2 = 0 := by omega
      have w1 : (((W : Int) + 2) == 0) = false := by simp; omega
      obtain ⟨K, hK⟩ : ∃ K, K = 2 * zc gm T wo + l0 := ⟨_, rfl⟩
      have HK := hid hK
      obtain ⟨bw0, bw1, bw2, bw3⟩ := hBm.out
      have l1 : (l0 : Int) + 1 - 1 = (l0 : Nat) := by omega
      have l2 : (0 : Int) ≤ (l0 : Nat) := by omega
      have l3 : ((l0 : Nat) : Int) < (l0 : Int) + 1 := by omega
      have l4 : ((l0 : Nat) : Int) ≤ (cap : Nat) := by omega
      clear NU hxm hym hK hl0 elen ecat
      have hKb : K ≤ 2312 := by have := HK.out; omega
      go_wp2_with fail
      clear ca bw0 bw1 bw2 bw3 l1 l2 l3 l4 cx cy w0 w1
      go_loopw [11, 15] (fun tv dv wr => ∃ (d : Nat) (M2 : Nat → Int) (t1 : List Nat) (g1 cap1 : Nat), d ≤ 9 ∧ dv = .int .i64 d ∧ tv = .slice (some ⟨g1, 0, none⟩) t1.length cap1 ∧ Hid (wr.ownsRow (w.heap.size + 1) 3 1 (.slice (some ⟨g1, 0, none⟩) t1.length cap1) t1.length (numV t1)) ∧ Hid (Qm.SQ bl j W H M M2 fr n t1 a d) ∧ Hid (MkAt gm T M2 wr) ∧ Hid (Bmp w.heap.size W H s wr) ∧ Hid (w.grownBy wr (some gm)) ∧ 2 * zc gm T wr + t1.length ≤ K) (fun _ d _ => 9 - (intOf d).toNat)
      case atStart => exact ⟨0, M', t0, g, cap, by omega, rfl, by rw [← HL0.out], by rw [← HL0.out]; exact OP.out, SQ0, hMk, hBm, hG, by have := HK.out; have := HL0.out; omega⟩
      case round =>
        clear hO hSP hMk hBm hG SQ0 OP
        obtain ⟨d, M2, t1, g1, cap1, hd9, rfl, rfl, hO, hSQ, hMk, hBm, hG, hz⟩ := hrel
        obtain ⟨l1, hl1⟩ : ∃ l1, l1 = t1.length := ⟨_, rfl⟩
        rw [← hl1] at hO hz ⊢
        have HL1 := hid hl1
        have DR := hid (show Below wr.heap.size wr wr.drew from ⟨rfl, rfl, rfl, Nat.le_refl _, fun _ _ => rfl⟩)
        by_cases hd : d < 9
        · obtain ⟨dm, hdm⟩ : ∃ dm, dm = d % 3 := ⟨_, rfl⟩
          obtain ⟨dq, hdq⟩ : ∃ dq, dq = d / 3 := ⟨_, rfl⟩
          have ed1 : (d : Int) % 3 = (dm : Nat) := by rw [hdm]; simp
          have ed2 : (d : Int) / 3 = (dq : Nat) := by rw [hdq]; simp
          obtain ⟨u, hu⟩ : ∃ u : Int, (xm : Int) - 1 + (dm : Nat) - 1 = u := ⟨_, rfl⟩
          obtain ⟨v, hv⟩ : ∃ v : Int, (ym : Int) - 1 + (dq : Nat) - 1 = v := ⟨_, rfl⟩
          have NB := hid (show Qm.nbP (Qm.cellP W a) d = (u, v) by rw [CA.out, ← hu, ← hv, hdm, hdq]; rfl)
          have dmb : dm < 3 := by omega
          have dqb : dq < 3 := by omega
          obtain ⟨bw0, bw1, bw2, bw3⟩ := hBm.out
          have d0 : (0 : Int) ≤ (d : Nat) := by omega
          have d9 : ((d : Nat) : Int) < 9 := by omega
          clear hdm hdq hl1
          by_cases hin : -1 ≤ u ∧ u ≤ W ∧ -1 ≤ v ∧ v ≤ H
          · by_cases hev : near = false ∧ d % 2 = 0
            · obtain ⟨rfl, hev⟩ := hev
              have SK := hid (hSQ.out.even (by omega) hd hev (fun e => by have := NEAR.out.2 e; simp at this))
              have b1 : decide (u < -1) = false := by simp; omega
              have b2 : decide (v < -1) = false := by simp; omega
              have b3 : decide ((W : Int) < u) = false := by simp; omega
              have b4 : decide ((H : Int) < v) = false := by simp; omega
              have b5 : ((d : Int) % 2 == 0) = true := by simp; omega
              have b6 : (d : Int) % 2 = 0 := by omega
              go_wp2
              go_roundw
              case rel => exact ⟨d + 1, M2, t1, g1, cap1, by omega, by go_num, by rw [← HL1.out], by rw [← HL1.out]; exact hO.out, SK, hMk, hBm, hG, by have := HL1.out; omega⟩
              case measure => simp [intOf]; omega
            · obtain ⟨k, hk, hkuv⟩ := Qm.cellP_of (W := W) (H := H) (p := (u, v)) (by simp only [Qm.InG]; exact hin)
              have EK := hid (hkuv.trans NB.out.symm)
              have kk := Qm.cellP_ix hkuv
              rw [← HT.out] at hk
              have KT := hid hk
              obtain ⟨pr, hpr⟩ : ∃ pr : Int, (v + 1) * ((W : Int) + 2) = pr := ⟨_, rfl⟩
              rw [hpr] at kk
              have prb : -100 ≤ pr ∧ pr ≤ 2000 := by omega
              have PAR := hid (show d % 2 = 0 → bl (Qm.cellP W fr).1 (Qm.cellP W fr).2 = j from fun he => NEAR.out.1 (by cases near with | true => rfl | false => exact absurd ⟨rfl, he⟩ hev))
              have b1 : decide (u < -1) = false := by simp; omega
              have b2 : decide (v < -1) = false := by simp; omega
              have b3 : decide ((W : Int) < u) = false := by simp; omega
              have b4 : decide ((H : Int) < v) = false := by simp; omega
              have k0 : (0 : Int) ≤ (k : Nat) := by omega
              have k1 : ((k : Nat) : Int) < (T : Nat) := by omega
              have KEEP := hid (show ∀ w7, Below wr.heap.size wr w7 → w7.ownsRow (w.heap.size + 1) 3 1 (.slice (some ⟨g1, 0, none⟩) l1 cap1) l1 (numV t1) ∧ MkAt gm T M2 w7 ∧ Bmp w.heap.size W H s w7 ∧ w.grownBy w7 (some gm) ∧ zc gm T w7 = zc gm T wr from fun w7 hb => ⟨own_below hO.out hb, hMk.out.on hb, hBm.out.on hb hBm.out.1, gb_below hG.out hb hG.out.size, by rw [zc_of (hMk.out.on hb), zc_of hMk.out]⟩)
              have CK := hMk.out.2.1 k hk
              obtain ⟨z, hz2⟩ : ∃ z, z = M2 k := ⟨_, rfl⟩
              rw [← hz2] at CK
              have HZ := hid hz2
              have two : (near = true) ∨ (near = false ∧ d % 2 ≠ 0) := by cases near with | true => exact .inl rfl | false => exact .inr ⟨rfl, fun e => hev ⟨rfl, e⟩⟩
              have S0 := hid (show SB w.heap.size gm k W H s z wr wr.drew from ⟨bw1, bw2, bw3, CK, DR.out, bw0, hMk.out.1⟩)
              clear hev hin hz2 hkuv hk
              rcases two with rfl | ⟨rfl, hodd⟩
              rotate_left
              have b5 : ((d : Int) % 2 == 0) = false := by simp; omega
              have b6 : ¬ (d : Int) % 2 = 0 := by omega
              all_goals (
                by_cases hz0 : z = 0
                · subst hz0
                  go_wp2_with fail
                  go_region_held3 (fun w' => w'.cell? ⟨w.heap.size, 0, none⟩ = some (.int .i64 W) ∧ w'.cell? ⟨w.heap.size, 1, none⟩ = some (.int .i64 H) ∧ w'.cell? ⟨w.heap.size, 2, none⟩ = some (.string s) ∧ w'.cell? ⟨gm, k, none⟩ = some (.int .i64 0) ∧ Below wr.heap.size wr w' ∧ w.heap.size < w'.heap.size ∧ gm < w'.heap.size)
                    (first | exact S0.out | exact (by assumption : SB w.heap.size gm k W H s 0 wr _))
                    (first | (go_at_call_of 37 (Value.int .i64 u); refine (BLK.out _ _ _ _ _ _ (by first | exact S0.out | assumption : SB w.heap.size gm k W H s 0 wr _) u v).mono ?_; rintro e w6 ⟨rfl, hS6⟩) | (go_at_call 37; refine (BLK.out _ _ _ _ _ _ (by assumption : SB w.heap.size gm k W H s 0 wr _) _ _).mono ?_; rintro e w7 ⟨rfl, hS7⟩))
                  have S7 := hid hS7
                  clear hS6 hS7 CK S0
                  obtain ⟨bw1, bw2, bw3, CK, hB7, -, -⟩ := S7.out
                  have Q := hid (KEEP.out w7 hB7)
                  have FK := Q.out.2.1.2.2 k
                  clear hB7
                  cases hcc : (bl u v == bl ((xm : Int) - 1) ((ym : Int) - 1))
                  · have SK := hid (hSQ.out.other (by rw [NB.out, CA.out]; intro e; simp only at e; rw [e] at hcc; simp at hcc))
                    go_wp2
                    go_roundw
                    case rel => exact ⟨d + 1, M2, t1, g1, cap1, by omega, by go_num, by rw [← HL1.out], by rw [← HL1.out]; exact Q.out.1, SK, hid Q.out.2.1, hid Q.out.2.2.1, hid Q.out.2.2.2.1, by have := HL1.out; have := Q.out.2.2.2.2; omega⟩
                    case measure => simp [intOf]; omega
                  · have SK := hid (hSQ.out.take (by omega) hd (by rw [← HT.out]; exact KT.out) HZ.out.symm EK.out (by rw [NB.out, CA.out]; exact eq_of_beq hcc) PAR.out)
                    have X8 := hid (show MkAt gm T (Qm.upM M2 k n) (w7.setCell ⟨gm, k, none⟩ (.int .i64 (n : Nat))) from Q.out.2.1.set KT.out n)
                    have O8 := hid (own_keep Q.out.1 (g := gm) (by omega) (set_grown (Below.refl _ _) ⟨gm, k, none⟩ (v := .int .i64 (n : Nat))))
                    have G8 := hid (gb_trans Q.out.2.2.2.1 (set_grown (Below.refl _ _) ⟨gm, k, none⟩ (v := .int .i64 (n : Nat))))
                    have B8 := hid (Q.out.2.2.1.gb (set_grown (Below.refl _ _) ⟨gm, k, none⟩ (v := .int .i64 (n : Nat))) (by simp only [ne_eq, Option.some.injEq]; omega))
                    have lb : l1 ≤ 2312 := by omega
                    have z8 := G8.out.size
                    have hb8 := B8.out.1
                    have m3 : l1 + 1 ≤ maxLen := by unfold maxLen; omega
                    have m4 : (l1 + 1) * 8 ≤ 140737488355328 := by omega
                    have m5 : w.heap.size + 1 ≤ ((w7.setCell ⟨gm, k, none⟩ (.int .i64 (n : Nat))).alloc (.cells #[.int .i64 (k : Nat)] 3)).heap.size := by simp at z8 ⊢; omega
                    have C1 := hid (cell_one_new (w7.setCell ⟨gm, k, none⟩ (.int .i64 (n : Nat))) (.int .i64 (k : Nat)) 3)
                    rw [World.size_setCell] at C1
                    have A8 := hid (show Below (w7.setCell ⟨gm, k, none⟩ (.int .i64 (n : Nat))).heap.size (w7.setCell ⟨gm, k, none⟩ (.int .i64 (n : Nat))) ((w7.setCell ⟨gm, k, none⟩ (.int .i64 (n : Nat))).alloc (.cells #[.int .i64 (k : Nat)] 3)) from (Below.refl _ _).alloc (Nat.le_refl _) _)
                    go_wp2_with (first
                      | (at_builtin; refine wpList_append_own_at _ rfl _ _ 33 rfl (w.heap.size + 1) 3 ii (.int .i64 0) 1 8 Try.underlying33 hii hi0 hi1 hi2 rfl (by decide) _ _ _ rfl (O8.out.alloc _) ⟨_, 0, none⟩ 1 1 [.int .i64 (k : Nat)] rfl rfl C1.out (by intro u hu; simp at hu; subst hu; rfl) m3 m4 m5 ?_))
                    intro v9 w9 o9 g9 _ _
                    have o9' : w9.ownsRow (w.heap.size + 1) 3 1 v9 (l1 + 1) (numV (t1 ++ [k])) := by rw [numV_snoc]; exact o9
                    obtain ⟨h9, cap9, rfl, -⟩ := own_src o9' (by omega)
                    have g1b : w.heap.size + 1 ≤ g1 := (own_nums O8.out).2.1
                    have BL9 := hid (show Below (w.heap.size + 1) ((w7.setCell ⟨gm, k, none⟩ (.int .i64 (n : Nat))).alloc (.cells #[.int .i64 (k : Nat)] 3)) w9 from gb_below_of g9 g1b m5)
                    have X9 := hid ((X8.out.on A8.out).gb g9 (by simp [Value.ownBlock]; omega))
                    have B9 := hid ((B8.out.on A8.out hb8).on BL9.out (by omega))
                    have G9 := hid (gb_below (gb_below G8.out A8.out G8.out.size) BL9.out (by omega))
                    have O9 := hid o9'
                    have Z9 := hid (show zc gm T w9 + 1 = zc gm T wr by rw [zc_of X9.out, zc_of hMk.out]; exact zc_set KT.out HZ.out.symm (by omega))
                    clear o9 g9 o9' m3 m4 m5 CK FK bw0 bw1 bw2 bw3 z8 hb8
                    go_wp2
                    go_roundw
                    case rel => exact ⟨d + 1, Qm.upM M2 k n, t1 ++ [k], h9, cap9, by omega, by go_num, by rw [List.length_append, ← HL1.out]; rfl, by rw [List.length_append, ← HL1.out]; exact O9.out, SK, X9, B9, G9, by have := HL1.out; have := Z9.out; simp only [List.length_append, List.length_singleton]; omega⟩
                    case measure => simp [intOf]; omega
                · have SK := hid (hSQ.out.taken EK.out (by rw [← HZ.out]; exact hz0))
                  have zz : (z == 0) = false := by simp; exact hz0
                  have zd : decide (z = 0) = false := by simp; exact hz0
                  go_wp2_with fail
                  go_quiet (fail)
                  have Q := hid (KEEP.out (wr.drewN nq) ⟨rfl, rfl, rfl, Nat.le_refl _, fun _ _ => rfl⟩)
                  go_wp2
                  all_goals (
                    go_roundw
                    case rel => exact ⟨d + 1, M2, t1, g1, cap1, by omega, by go_num, by rw [← HL1.out], by rw [← HL1.out]; exact Q.out.1, SK, hid Q.out.2.1, hid Q.out.2.2.1, hid Q.out.2.2.2.1, by have := HL1.out; have := Q.out.2.2.2.2; omega⟩
                    case measure => simp [intOf]; omega))
          · have SK := hid (hSQ.out.beyond (by rw [NB.out]; simp only [Qm.InG]; exact hin))
            have wy : u < -1 ∨ (¬ u < -1 ∧ v < -1) ∨ (¬ u < -1 ∧ ¬ v < -1 ∧ (W : Int) < u) ∨ (¬ u < -1 ∧ ¬ v < -1 ∧ ¬ (W : Int) < u ∧ (H : Int) < v) := by omega
            rcases wy with y1 | ⟨y1, y2⟩ | ⟨y1, y2, y3⟩ | ⟨y1, y2, y3, y4⟩
            all_goals (
              clear hin
              go_wp2
              go_roundw
              case rel => exact ⟨d + 1, M2, t1, g1, cap1, by omega, by go_num, by rw [← HL1.out], by rw [← HL1.out]; exact hO.out, SK, hMk, hBm, hG, by have := HL1.out; omega⟩
              case measure => simp [intOf]; omega)
        · have ed : d = 9 := by omega
          subst ed
          have SPN := hid hSQ.out.finish
          go_wp2
          go_roundw
          case rel => exact ⟨M2, t1, g1, cap1, by rw [← HL1.out], by rw [← HL1.out]; exact hO.out, SPN, hMk, hBm, hG, by have := HL1.out; omega⟩
          case measure => have := HK.out; simp [slLen]; omega
end Go.Proofs.Ytgapfjjdccohkaa
